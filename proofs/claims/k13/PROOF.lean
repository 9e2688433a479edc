import PyProof.Rows.All
import Wide.All
import OpenK.AllK
import Wide.FinOn
import HandS.ForMost
import HandS.IsInst
import HandS.Steps
import HandS.Property
import HandS.ClsMeth
import HandS.FStr
import PyProof.ListStr
import PyProof.CallFns
import PyProof.Rows.RuleB_pow
import KE.KOpsOwn
import OpenK.KMeth
import HandS.RaiseMore
import KE.KCallOwn
import HandS.IterVal
import KE.KOwnIter
import PyProof.DictUpdate
import HandS.WordsDict
import HandS.Star
import HandS.SetTxt0
import HandS.SetFor
import HandS.Strs
import HandS.TupAny
import HandS.More
import HandS.DictComp
import HandS.Conv
import KE.KDictSum
import KE.KDictList
import PyProof.P3Eq
import HandS.Defaults
import HandS.Style
import HandS.ListItems
import HandS.Finally
import HandS.Dict
import KE.KEqDict
import KE.KDictZip
import KE.GoesMore
import KE.GoesEnum
import PyProof.ListNew
import HandS.Zip
import HandS.DeepEq
import PyProof.ExcBaseAll.ValueError
import HandS.WordsExc
import PyProof.StrLawsTight
import PyProof.FitsReplace
import PyProof.Rows.RegReprOcc
import KE.KxAffix
import KE.KxText
import HandS.AnyAll
import HandS.Lambda
import HandS.TryMany
import KE.KTryMore
import HandS.Iter
import HandS.EndTab
import KE.KNestM
import KE.KLam
import PySem.Challenge.RW_fromparts_k13_whole_libraries_changed_st
set_option Elab.async false
set_option linter.all false
set_option maxRecDepth 100000
set_option maxHeartbeats 2000000
namespace My
open PySem PySem.Spec PyProof.Rows L2 TL
/-! ### defs called where no repr is under way: what A.guards says is handed down -/
structure FnOkG (P : Program) (w : World) (K : PySem.W.Frag) (mg : Str → Option Value) (base : Heap) (CX : CXT) (k : Nat) (f : Addr) (fd : FuncData) (ps : List Str) (sp : Sp) : Prop where
  arity : ∀ vs H Q E, sp vs H Q E → vs.length = ps.length
  go : ∀ (B : Around) (fr : List Env) (t : Shared) (H : Hp) (ar : Args) (us : List Value) (vs : List V) (Q : VK) (E : XK), Room k B → B.guards = some [] → Env0 P w K mg base B fr t H → BindsTo t fd ar (ps.zip us) → Vals vs us → sp vs H Q E →
    codeAny (model P w) B (.call (.ref f) ar) (CR CX fr P w H t Q E) t
theorem FnOkG.lift {P : Program} {w : World} {K : PySem.W.Frag} {mg : Str → Option Value} {base : Heap} {CX : CXT} {k : Nat} {f : Addr} {fd : FuncData} {ps : List Str} {sp : Sp}
    (F : FnOk P w K mg base CX k f fd ps sp) : FnOkG P w K mg base CX k f fd ps sp := ⟨F.len, fun B fr t H ar us vs Q E hr _ => F.run B fr t H ar us vs Q E hr⟩
section
variable {P : Program} {w : World} {K : PySem.W.Frag} {mg : Str → Option Value} {base : Heap}
theorem _root_.L2.Fun.okG {CX : CXT} {x qual : Str} {st : Stmt} {f : Addr} {fd : FuncData} {N ps : List Str} {k : Nat} {sp : Sp} (F : Fun K x qual st f fd) (S : FnScope N ps (defScope st)) (ar : ∀ vs H Q E, sp vs H Q E → vs.length = ps.length)
    (body : ∀ (cv : Value) (B : Around) (fr : List Env) (t : Shared) (H : Hp) (vs : List V) (Q : VK) (E : XK), Room k (B.deeper (envOfC qual (defScope st) t.heap.objs.size f cv)) → (B.deeper (envOfC qual (defScope st) t.heap.objs.size f cv)).guards = some [] → sp vs H Q E →
      ∃ r, PSs (cxOf CX P w K mg base N qual (defScope st) f cv B fr t H E).nox (defBody st) r ∧ r { nx := fun _ H' => Q .non H', rt := Q } (start N vs) H) : FnOkG P w K mg base CX (k + 1) f fd ps sp := by
  obtain ⟨oc, od, kV, doc, pm, an, cv, ct, osl, rfl, found, isCode⟩ := F.ex
  refine ⟨ar, fun B fr t H args us vs Q E room still env binds vals wish => ?_⟩
  have there : K.In t.heap := env.mod.kin.keeps (fun b o e => (env.bs b o e).1)
  have noLim : t.heap.NoLimit := env.mod.nolimit.keeps (fun b o e => (env.bs b o e).1)
  have kinds : ∀ y ∈ ps.zip us, (defScope st).names.lookup y.1 = some .local ∨ ((defScope st).names.lookup y.1 = some .cell ∧ ((cellsFrom (t.heap.objs.size + 1) (defScope st).names []).lookup y.1).isSome = true) := by
    rintro ⟨n, v⟩ hy
    exact (S.par n (List.of_mem_zip hy).1).imp id fun q => ⟨q, PySem.W.cellsFrom_some _ _ _ (.inl q)⟩
  refine codeAny_call_function room.depth (there _ _ found)
    rfl S.co S.gen rfl (PySem.W.codeRec_of there isCode) (binds _ _ _ _
      (wpAny_newFunctionEnv_cells S.kind kinds fun env' eq t1 start1 => ?_))
  subst eq
  refine ⟨noLim.keeps start1.toInCall.keep, codeAny_func ?_⟩
  obtain ⟨r, runs, ends⟩ := body cv B fr t H vs Q E (room.deeper _) still wish
  refine wpAny_mono (runs.nox.run [] t1 (start N vs) H _ (inv_start S room.hd env (ar _ _ _ _ wish) vals start1) ends) ?_ fun _ _ z => z
  intro fl t2 got
  cases fl with
  | ret u =>
    obtain ⟨v, σ', H', J, rv, q⟩ := got
    exact ⟨v, H', J.os, J.bare, J.base, J.hok, rv, q⟩
  | next =>
    obtain ⟨σ', H', J, q⟩ := got
    exact ⟨V.non, H', J.os, J.bare, J.base, J.hok, rfl, q⟩
  | brk => exact got.choose_spec.choose_spec.2.elim
  | cont => exact got.choose_spec.choose_spec.2.elim
end
/-! ### defs by their promises -/
structure Cal (P : Program) (w : World) (K : PySem.W.Frag) (mg : Str → Option Value) (base : Heap) (x : Str) (k : Nat) (ps : List Str) (sp : Sp) : Prop where
  ex : ∃ f fd, FnOkG P w K mg base CX0 k f fd ps sp ∧ mg x = some (.ref f) ∧ PySem.W.keepIn K (.ref f) = true ∧ Binds K fd ps []
theorem Cal.of {P : Program} {w : World} {K : PySem.W.Frag} {mg : Str → Option Value} {base : Heap} {x q : Str} {k : Nat} {ps : List Str} {sp : Sp} {st : Stmt} {f : Addr} {fd : FuncData}
    (F : Fun K x q st f fd) (hm : mg x = some (.ref f)) (hb : Binds K fd ps []) (ok : FnOkG P w K mg base CX0 k f fd ps sp) : Cal P w K mg base x k ps sp := ⟨f, fd, ok, hm, F.kp, hb⟩
section
variable {X : Cx} {k : Nat} {f : Addr} {fd : FuncData} {ps : List Str} {sp : Sp} {ds : List Value} {dvs : List V} {E : XK} {CX : CXT}
/-- the callee runs, no repr under way -/
theorem run_fnG {pins : List (Addr × Obj)} {σ : L2.St} {H : Hp} {s : Shared} {Q : VK} {us : List Value} {vs : List V} (F : FnOkG X.prog X.w X.K X.mg X.base CX k f fd ps sp) (room : Room k X.A) (still : X.A.guards = some [])
    (binds : Binds X.K fd ps ds) (dv : Vals dvs ds) (pass : Passes CX X E) (I : Inv X pins σ H s) (rel : Vals vs us) (wish : sp (vs ++ dvs) H Q E) : wpAny (model X.prog X.w) X.A (call (.ref f) us) (EP X pins σ Q) X.xe s := by
  have both := rel.append dv
  have len : (us ++ ds).length = ps.length := both.length.symm.trans (F.arity _ _ _ _ wish)
  have ran := F.go X.A X.stack s H ⟨us, []⟩ (us ++ ds) (vs ++ dvs) Q E room still I.env0 (binds s us I.kIn len) both wish
  refine wpAny_call (codeAny_mono ran ?_)
  intro r s' h
  match r, h with
  | .error e, h => exact pass pins σ H s e s' I h
  | .ok (.ret u), h => exact I.after h
  | .ok .next, h => exact False.elim h
  | .ok .brk, h => exact False.elim h
  | .ok .cont, h => exact False.elim h
end
section
variable {X : Cx} {x : Str} {k : Nat} {ps : List Str} {sp : Sp} {e : Expr} {es : List Expr} {t : TA} {p pos : Pos}
theorem pe_callC (C : Cal X.prog X.w X.K X.mg X.base x k ps sp) (room : Room k X.A) (still : X.A.guards = some []) (hg : Gl X x) (ha : PA X (e :: es) t) (hdb : (x == ("__debug__" : Str)) = false := by decide)
    (he : starEach (e :: es) X.env = (false, eval e X.env) :: starEach es X.env := by rfl) (hpl : (backTo pos (starEach es X.env)).any (·.1) = false := by rfl) :
    PE X (.Call (.Name x p) (e :: es) [] pos) (tCall sp [] E0 t) := by
  obtain ⟨f, fd, ok, hm, kp, hb⟩ := C.ex
  refine ⟨fun pins s σ H Q I h => wpAny_Call_Name_kw (ld_glob I hg hm ?_ hdb)⟩
  have args := thn (ha.run pos pins s σ H _ I h) (Q' := fun us s1 => X.K.In s1.heap ∧ wpAny (model X.prog X.w) X.A (call (.ref f) us) (EP X pins σ Q) X.xe s1) fun us s1 ⟨vs, H1, I1, r, q⟩ =>
    ⟨I1.kIn, run_fnG ok room still hb .nil pass0 I1 r q⟩
  exact PySem.W.callWith_K (h₀ := X.base) I.ok.mod.kin kp args he hpl
theorem pe_globE {x : Str} {v : V} (hg : Gl X x) (h : ∃ u, X.mg x = some u ∧ RelV v u) (hd : (x == ("__debug__" : Str)) = false := by decide) : PE X (.Name x pos) (tC v) := by
  obtain ⟨u, hm, r⟩ := h
  exact pe_glob hg hm r hd
theorem op_powW : OpR X (binaryOp .Pow) (rI (fun i j => 0 ≤ j ∧ (Builtin.Int.intBits i : Int) * j ≤ 2 ^ 27) fun i j => .int (i ^ j.toNat)) := opI fun _ _ _ _ _ _ _ hc q => PyProof.Rows.pow_int hc.1 hc.2 q
theorem call_repr_bl : CallR X (.builtin "repr") (fun xs H Q => ∃ b, xs = [.bl b] ∧ Q (.str (if b then "True" else "False")) H) := by
  intro pins s σ H xs us Q I r h
  obtain ⟨b, rfl, q⟩ := h
  obtain ⟨u, rfl, r1⟩ := vals1 r
  cases r1
  exact PySem.P.repr_of_bool ⟨.str _, H, I.tok _, ⟨_, rfl⟩, q⟩
def sgnV (x : Str) : List V := x.cps.toList.map fun c => V.str ⟨#[c]⟩
theorem vals_signs : ∀ (l : List Nat) (ys : List Value), ys.length = l.length → (∀ (j : Nat) (v : Value), ys[j]? = some v → ∃ c u, l[j]? = some c ∧ v = .str ⟨#[c]⟩ u) → Vals (l.map fun c => V.str ⟨#[c]⟩) ys
  | [], [], _, _ => .nil
  | [], _ :: _, h, _ => by simp at h
  | _ :: _, [], h, _ => by simp at h
  | c :: l, y :: ys, h, f => by
    obtain ⟨c', u, e1, e2⟩ := f 0 y rfl
    have e3 : c = c' := Option.some.inj e1
    subst e3
    exact .cons ⟨u, e2⟩ (vals_signs l ys (by simpa using h) fun j v e => f (j + 1) v e)
theorem call_list_text (hc : X.calm = true) : CallR X (.type "list") (fun xs H Q => ∃ x : Str, xs = [.str x] ∧ x.length ≤ sizeLine ∧ ∀ l, H l = none → Q (.ref l) (upd H l (.lst (sgnV x)))) := by
  intro pins s σ H xs us Q I r h
  obtain ⟨x, rfl, hz, q⟩ := h
  obtain ⟨u, rfl, t, rfl⟩ := vals1 r
  refine call_list_str (hn := hz) (I.ok.hd hc) x t fun h' tk acc' c' hk hS' hacc => ?_
  have hv : Vals (sgnV x) acc'.toList := vals_signs _ _ (by simp [hacc.1]) fun j v e => by
    obtain ⟨c, u, h1, h2⟩ := hacc.2 j v (by simpa using e)
    exact ⟨c, u, by simpa using h1, h2⟩
  exact ⟨.ref s.heap.objs.size, _, I.laid (t' := tk) hk (Nat.le_refl _) (show ObjOk X.prog X.w _ h' _ (.lst (sgnV x)) from ⟨by simp [sgnV]; exact hz, acc'.toList, c', hv, by simpa using hS'⟩), rfl, q _ (I.hok.fresh (Nat.le_refl _))⟩
end
/-! ### heaps: all stands but the dice -/
def Ext (d : Addr) (H H' : Hp) : Prop := ∀ a o, a ≠ d → H a = some o → H' a = some o
theorem Ext.refl {d : Addr} (H : Hp) : Ext d H H := fun _ _ _ h => h
theorem Ext.trans {d : Addr} {H H1 H2 : Hp} (a : Ext d H H1) (b : Ext d H1 H2) : Ext d H H2 := fun x o n h => b x o n (a x o n h)
theorem Ext.new {d : Addr} {H H1 : Hp} (a : Ext d H H1) {p : Addr} {o : HO} (h : H1 p = none) : Ext d H (upd H1 p o) := fun x u n e => by
  rw [upd_ne (ne_of_none (a x u n e) h)]
  exact a x u n e
theorem Ext.same {d : Addr} {H H' : Hp} (h : Same H H') : Ext d H H' := fun a o _ e => h a o e
theorem Ext.set {d : Addr} {H : Hp} {o : HO} : Ext d H (upd H d o) := fun a u n e => by
  rw [upd_ne n]
  exact e
theorem Ext.mut {d : Addr} {H H1 : Hp} (a : Ext d H H1) {p : Addr} {o : HO} (h : H p = none) : Ext d H (upd H1 p o) := fun x u n e => by
  rw [upd_ne (ne_of_none e h)]
  exact a x u n e
theorem Ext.none {d : Addr} {H H' : Hp} (e : Ext d H H') {l : Addr} (n : l ≠ d) (h : H' l = Option.none) : H l = Option.none := by
  cases q : H l with
  | none => rfl
  | some o =>
    rw [e l o n q] at h
    cases h
theorem _root_.L2.Same.new {H H1 : Hp} (a : Same H H1) {p : Addr} {o : HO} (h : H1 p = none) : Same H (upd H1 p o) := fun x u e => by
  rw [upd_ne (ne_of_none (a x u e) h)]
  exact a x u e
theorem _root_.L2.Same.mut {H H1 : Hp} (a : Same H H1) {p : Addr} {o : HO} (h : H p = none) : Same H (upd H1 p o) := fun x u e => by
  rw [upd_ne (ne_of_none e h)]
  exact a x u e
def IsDice (H : Hp) (d : Addr) : Prop := ∃ a b c : Int, H d = some (.lst [.int a, .int b, .int c])
theorem IsDice.some {H : Hp} {d : Addr} (h : IsDice H d) : ∃ o, H d = Option.some o := ⟨_, h.choose_spec.choose_spec.choose_spec⟩
theorem IsDice.ne {H : Hp} {d l : Addr} (h : IsDice H d) (n : H l = none) : l ≠ d := by
  obtain ⟨o, e⟩ := h.some
  exact fun z => by
    rw [z, e] at n
    cases n
theorem IsDice.new {H : Hp} {d p : Addr} {o : HO} (h : IsDice H d) (n : H p = none) : IsDice (upd H p o) d := by
  have hn := h.ne n
  obtain ⟨a, b, c, e⟩ := h
  exact ⟨a, b, c, by rw [upd_ne hn.symm]; exact e⟩
theorem IsDice.mut {H : Hp} {d p : Addr} {o : HO} (h : IsDice H d) (n : p ≠ d) : IsDice (upd H p o) d := by
  obtain ⟨a, b, c, e⟩ := h
  exact ⟨a, b, c, by rw [upd_ne n.symm]; exact e⟩
theorem IsDice.same {H H' : Hp} {d : Addr} (h : IsDice H d) (s : Same H H') : IsDice H' d := by
  obtain ⟨a, b, c, e⟩ := h
  exact ⟨a, b, c, s _ _ e⟩
/-- where lists stand -/
theorem sql_ext {K : PySem.W.Frag} {H H' : Hp} {d a : Addr} {xs : List V} (e : Ext d H H') (n : a ≠ d) (h : SqL K H a xs) : SqL K H' a xs := by
  rcases h with (h | ⟨o, h⟩) | h
  · exact .inl (.inl (e _ _ n h))
  · exact .inl (.inr ⟨o, e _ _ n h⟩)
  · exact .inr h
theorem lt_line {n : Nat} (h : n ≤ 1000000) : n ≤ sizeLine := Nat.le_trans h (by decide)
theorem lt_line' {n : Nat} (h : n < 1000000) : n < sizeLine := Nat.lt_of_lt_of_le h (by decide)
/-! ### the dice's promises -/
/-- a new dice; the list of the script, an index -/
def sp__law_dice (K : PySem.W.Frag) : Sp := fun vs H Q _ => ∃ (a : Addr) (ns : List Int) (i : Int), vs = [.ref a, .int i] ∧ SqL K H a (ns.map V.int) ∧ 0 ≤ i ∧ i < 64 ∧
  ∀ d o, H d = none → IsDice (upd H d o) d → Q (.ref d) (upd H d o)
def sp__law_roll (_ : PySem.W.Frag) : Sp := fun vs H Q _ => ∃ (d : Addr) (n : Int), vs = [.ref d, .int n] ∧ IsDice H d ∧ 0 < n ∧ n < 1073741824 ∧
  ∀ r H', 0 ≤ r → r < n → Ext d H H' → IsDice H' d → Q (.int r) H'
def sp__law_pick (K : PySem.W.Frag) : Sp := fun vs H Q _ => ∃ (d l : Addr) (xs : List V), vs = [.ref d, .ref l] ∧ IsDice H d ∧ SqL K H l xs ∧ l ≠ d ∧ xs ≠ [] ∧ xs.length < 1000000 ∧
  ∀ x H', x ∈ xs → Ext d H H' → IsDice H' d → Q x H'
def sp__law_some (K : PySem.W.Frag) : Sp := fun vs H Q _ => ∃ (d l : Addr) (xs : List V) (n : Int), vs = [.ref d, .ref l, .int n] ∧ IsDice H d ∧ SqL K H l xs ∧ l ≠ d ∧ xs.length < 1000000 ∧ 0 ≤ n ∧
  ∀ p ys H', (∀ y ∈ ys, y ∈ xs) → ys.length ≤ xs.length → H p = none → p ≠ d → H' p = some (.lst ys) → Ext d H H' → IsDice H' d → Q (.ref p) H'
/-! ### a comprehension over a text -/
theorem lc_txt {x : Str} {g : TG} {tt : TT} {te : TE} {vs : List Nat} {σ : L2.St} {H1 : Hp} {D : Addr} {Qd : Hp → Prop} (Pv : Nat → Hp → Prop) (h0 : Pv 0 (upd H1 D (.lst [])))
    (hs : ∀ i c H, x.cps.toList[i]? = some c → Pv i H → g (.str ⟨#[c]⟩) (wipe σ vs) H fun σ2 H2 => wipe σ2 vs = wipe σ vs ∧ tt σ2 H2 fun b H3 =>
      if b = true then te σ2 H3 fun y H4 => ∃ acc, H4 D = some (.lst acc) ∧ acc.length < sizeLine ∧ Pv (i + 1) (upd H4 D (.lst (acc ++ [y]))) else Pv (i + 1) H3) (hd : ∀ H, Pv x.cps.toList.length H → Qd H) :
    ∃ W : Nat → Nat → Hp → Prop, (∃ m, W 0 m (upd H1 D (.lst []))) ∧ ∀ i m H, W i m H →
      ((Its x).stop i H ∧ Qd H) ∨ ((Its x).go i H ∧ ∃ Nx : Hp → Prop, (∀ H', Nx H' → ∃ m', m' < m ∧ W (i + 1) m' H') ∧ ∀ v H', (Its x).yld i H v H' → g v (wipe σ vs) H' fun σ2 H2 => wipe σ2 vs = wipe σ vs ∧ tt σ2 H2 fun b H3 =>
        if b = true then te σ2 H3 fun y H4 => ∃ acc, H4 D = some (.lst acc) ∧ acc.length < sizeLine ∧ Nx (upd H4 D (.lst (acc ++ [y]))) else Nx H3) := by
  refine ⟨fun i m H => m = x.cps.size - i ∧ i ≤ x.cps.size ∧ Pv i H, ⟨x.cps.size, by simp, Nat.zero_le _, h0⟩, ?_⟩
  rintro i m H ⟨rfl, hi, p⟩
  by_cases hlt : i < x.cps.size
  · refine .inr ⟨hlt, Pv (i + 1), fun H' p' => ⟨x.cps.size - (i + 1), by omega, rfl, hlt, p'⟩, fun v H' y => ?_⟩
    obtain ⟨e, c, ec, ev⟩ := y
    subst e ev
    exact hs i c _ (by simpa using ec) p
  · have e : i = x.cps.size := by omega
    exact .inl ⟨by show x.cps.size ≤ i; omega, hd H (by rw [e] at p; simpa using p)⟩
/-- flat data -/
theorem shaped_flat {ds : List PyData} (h : ∀ d ∈ ds, d.canLay0 = true ∧ d.depth = 0) : SeqAt.shaped (.list ds) = true ∧ SeqAt.shaped (.tuple ds) = true := by
  have a : ∀ ds : List PyData, (∀ d ∈ ds, d.canLay0 = true ∧ d.depth = 0) → PyData.canLayAll0 ds = true ∧ PyData.depthAll ds = 0 := by
    intro ds
    induction ds with
    | nil => intro _; exact ⟨rfl, rfl⟩
    | cons d r ih =>
      intro h
      have h1 := h d (List.mem_cons_self ..)
      have h2 := ih fun x hx => h x (List.mem_cons_of_mem _ hx)
      exact ⟨by rw [PyData.canLayAll0, h1.1, h2.1]; rfl, by rw [PyData.depthAll, h1.2, h2.2]; rfl⟩
  obtain ⟨a1, a2⟩ := a ds h
  constructor <;> (unfold SeqAt.shaped; rw [PyData.canLay0, PyData.depth, a1, a2]; rfl)
theorem strOk_ascii {x : Str} (h : ∀ c ∈ x.cps.toList, c < 128) : PyData.strOk x = true := by
  unfold PyData.strOk
  rw [← Array.all_toList]
  exact List.all_eq_true.mpr fun c hc => by
    have := h c hc
    simp
    omega
/-! ### comprehensions whose parts speak of the place where they stand -/
section
variable {X : Cx}
abbrev Dep (α : Type) := Shared → Hp → Addr → List (Str × Addr) → List Addr → α
abbrev Dep.at {α : Type} (t : Dep α) (X : Cx) : α := t X.s_0 X.H_0 0 [] []
theorem pe_lcD {elt tg iter : Expr} {ifs : List Expr} {scope : Scope} {own : List (Str × Nat)} {pos : Pos} {wi : TI} {g : Dep TG} {tt : Dep TT} {te : Dep TE} (hc : X.calm = true) (hN : X.N.Nodup) (hi : PI X tg iter wi) (ok : BlkOk X.N X.env.scope scope own)
    (hg : ∀ (s : Shared) (H : Hp) (C : Addr) (cl : List (Str × Addr)) (fp : List Addr), PG (X.blk s H scope (compEnvC scope cl C X.env) fp) tg (g s H C cl fp)) (ht : ∀ (s : Shared) (H : Hp) (C : Addr) (cl : List (Str × Addr)) (fp : List Addr), PTs (X.blk s H scope (compEnvC scope cl C X.env) fp) ifs (tt s H C cl fp))
    (he : ∀ (s : Shared) (H : Hp) (C : Addr) (cl : List (Str × Addr)) (fp : List Addr), PE (X.blk s H scope (compEnvC scope cl C X.env) fp) elt (te s H C cl fp)) (hs : ∀ x, foldedSetIterable iter X.env x = pure x := by intro _; rfl)
    (eg : ∀ s H C cl fp, g s H C cl fp = g.at X := by intros; rfl) (et : ∀ s H C cl fp, tt s H C cl fp = tt.at X := by intros; rfl) (ee : ∀ s H C cl fp, te s H C cl fp = te.at X := by intros; rfl) :
    PE X (.ListComp elt [⟨tg, iter, ifs, 0⟩] scope pos) (tLc wi (g.at X) (tt.at X) (te.at X) (own.map (·.2))) :=
  pe_lc hc hN hi ok (fun s H C cl fp => eg s H C cl fp ▸ hg s H C cl fp) (fun s H C cl fp => et s H C cl fp ▸ ht s H C cl fp) (fun s H C cl fp => ee s H C cl fp ▸ he s H C cl fp) hs
theorem ps_setLcD {i : Nat} {y : Str} {py : Pos} {elt tg iter : Expr} {ifs : List Expr} {scope : Scope} {own : List (Str × Nat)} {pos spos : Pos} {wi : TI} {g : Dep TG} {tt : Dep TT} {te : Dep TE} (hc : X.calm = true) (hN : X.N.Nodup) (hy : X.N[i]? = some y) (hyl : X.env.scope.names.lookup y = some .local)
    (hsw : swapsWith (.ListComp elt [⟨tg, iter, ifs, 0⟩] scope pos) (some (.Name y py)) spos.line X.env = pure true) (hi : PI X tg iter wi) (ok : BlkOk X.N X.env.scope scope own)
    (hg : ∀ (s : Shared) (H : Hp) (C : Addr) (cl : List (Str × Addr)) (fp : List Addr), PG (X.blk s H scope (compEnvC scope cl C X.env) fp) tg (g s H C cl fp)) (ht : ∀ (s : Shared) (H : Hp) (C : Addr) (cl : List (Str × Addr)) (fp : List Addr), PTs (X.blk s H scope (compEnvC scope cl C X.env) fp) ifs (tt s H C cl fp))
    (he : ∀ (s : Shared) (H : Hp) (C : Addr) (cl : List (Str × Addr)) (fp : List Addr), PE (X.blk s H scope (compEnvC scope cl C X.env) fp) elt (te s H C cl fp)) (hs : ∀ x, foldedSetIterable iter X.env x = pure x := by intro _; rfl)
    (eg : ∀ s H C cl fp, g s H C cl fp = g.at X := by intros; rfl) (et : ∀ s H C cl fp, tt s H C cl fp = tt.at X := by intros; rfl) (ee : ∀ s H C cl fp, te s H C cl fp = te.at X := by intros; rfl) :
    PS X (.Assign [.Name y py] (.ListComp elt [⟨tg, iter, ifs, 0⟩] scope pos) spos) (tAsg (tLc wi (g.at X) (tt.at X) (te.at X) (own.map (·.2))) (gName i)) :=
  ps_setLc hc hN hy hyl hsw hi ok (fun s H C cl fp => eg s H C cl fp ▸ hg s H C cl fp) (fun s H C cl fp => et s H C cl fp ▸ ht s H C cl fp) (fun s H C cl fp => ee s H C cl fp ▸ he s H C cl fp) hs
end
theorem tyes {σ : L2.St} {H : Hp} {A B : Hp → Prop} (h : A H) : tYes σ H (fun b H3 => if b = true then A H3 else B H3) := by
  show (if true = true then A H else B H)
  exact iteT h
/-- the law -/
def sp_law (K : PySem.W.Frag) : Sp := fun vs H Q _ => ∃ (a : Addr) (ns : List Int), vs = [.ref a] ∧ SqL K H a (ns.map V.int) ∧ ns.length ≤ 63 ∧ ∀ H', Q (.bl true) H'
theorem same_ext {H H1 H2 : Hp} {d : Addr} (s : Same H H1) (n : H d = none) (e : Ext d H1 H2) : Same H H2 := fun a o h => e a o (ne_of_none h n) (s a o h)
/-- how many cells the law looks at -/
theorem cells_ok {n : Nat} (h : n ≤ 63) : ∀ j : Int, j = (if (if (n : Int) < 8 then (n : Int) else 8) > 1 then (if (n : Int) < 8 then (n : Int) else 8) else 1) → 1 ≤ j ∧ j ≤ 8 := by
  intro j e
  by_cases h1 : (n : Int) < 8
  · rw [if_pos h1] at e
    by_cases h2 : (n : Int) > 1
    · rw [if_pos h2] at e
      omega
    · rw [if_neg h2] at e
      omega
  · rw [if_neg h1] at e
    rw [if_pos (by decide)] at e
    omega
theorem mem_strs {m : List Str} {x : V} (h : x ∈ m.map V.str) : ∃ y ∈ m, x = .str y := by
  obtain ⟨y, h1, h2⟩ := List.mem_map.mp h
  exact ⟨y, h1, h2.symm⟩
theorem dp_signs {K : PySem.W.Frag} {H : Hp} : ∀ l : List Nat, DpAll K H (l.map fun c => V.str ⟨#[c]⟩) (l.map fun c => PyData.str ⟨#[c]⟩)
  | [] => .nil
  | _ :: l => .cons (.str _) (dp_signs l)
theorem dp_bls {K : PySem.W.Frag} {H : Hp} : ∀ l : List Bool, DpAll K H (l.map V.bl) (l.map PyData.bool)
  | [] => .nil
  | _ :: l => .cons (.bl _) (dp_bls l)
theorem take_next {α : Type} {l : List α} {i : Nat} {x : α} (h : l[i]? = some x) : l.take (i + 1) = l.take i ++ [x] := by
  rw [List.take_add_one, h]
  rfl
theorem lt_of_get {α : Type} {l : List α} {i : Nat} {x : α} (h : l[i]? = some x) : i < l.length := (List.getElem?_eq_some_iff.mp h).1
theorem lex1 (a b : Nat) : decide ([a] < [b]) = decide (a < b) := by
  by_cases h : a < b
  · rw [decide_eq_true h]
    exact decide_eq_true (List.Lex.rel h)
  · rw [decide_eq_false h]
    refine decide_eq_false fun z => ?_
    cases z with
    | rel h' => exact h h'
    | cons h' => cases h'
/-! ### the law's call -/
section
variable {P : Program} {w : World} {K : PySem.W.Frag} {mg mb : Str → Option Value} {CX : CXT} {k : Nat} {fa a : Addr} {fd : FuncData} {x : Str} {sp : Sp} {t : Shared} {items : List Value} {ns : List Int}
/-- the law's call at an abstract heap that knows nothing but, perhaps, the script -/
theorem call_from (inK : K.In t.heap) (glob : t.heap.Ns mainGlobals mg) (blt : t.heap.Ns builtinsNs mb) (bltBoot : ∀ x : Str, x ≠ "__name__" → mb x = bootBuiltins x) (noLim : t.heap.NoLimit) (noGens : t.gens = #[])
    (script : t.heap.get? a = some { cls := .type "list", data := .seq items.toArray }) (room : Room k callerA)
    (F : ∀ base : Heap, K.In base → base.Ns mainGlobals mg → FnOkG P w K mg base CX k fa fd [x] sp) (binds : ∀ (s : Shared) (u : Value), BindsTo s fd ⟨[u], []⟩ [(x, u)])
    (none' : ∀ H e s', CX [] H t (fun _ _ _ => False) e s' → False)
    (H : Hp) (only : Only H) (fine : HOk P w H t.heap) (atA : ∀ b, H b ≠ none → b = a ∧ K.lookup a = none) (wish : sp [.ref a] H (fun v _ => v = .bl true) fun _ _ _ => False) :
    codeAny (model P w) callerA (.call (.ref fa) ⟨[.ref a], []⟩) (fun r s' => r = .ok (.ret (.bool true)) ∧ OldK t.heap s'.heap ∧ s'.os = t.os ∧ AllBare s'.gens) t := by
  -- what is no list stays in sight when the script is hidden
  have free : ∀ {b : Addr} {o : Obj}, t.heap.get? b = some o → (b = a → K.lookup a ≠ none ∨ ∃ es ep, o.data = .dict es ep) → H b = none := by
    intro b o e h
    by_cases q : H b = none
    · exact q
    · obtain ⟨rfl, kn⟩ := atA b q
      rcases h rfl with h | ⟨es, ep, h⟩
      · exact absurd kn h
      · rw [script] at e
        cases e
        cases h
  have names : ∀ {b : Addr} {m : Str → Option Value}, t.heap.Ns b m → (hidT t.heap H).Ns b m := by
    rintro b m ⟨o, es, ep, e, d, r⟩
    exact ⟨o, es, ep, hidT_get e (free e fun _ => .inr ⟨es, ep, d⟩), d, r⟩
  have inB : K.In (hidT t.heap H) := fun b o e => hidT_get (inK b o e) (free (inK b o e) fun q => .inl (by
    subst q
    rw [e]
    exact fun z => nomatch z))
  have module : Mod K mg (hidT t.heap H) := by
    obtain ⟨mc, l1, l2⟩ := noLim
    exact ⟨inB, names glob, ⟨mb, names blt, bltBoot⟩, ⟨mc, names l1, l2⟩⟩
  have ground : Env0 P w K mg (hidT t.heap H) callerA [] t H := by
    refine ⟨rfl, module, fun b o e => of_hidT e, ?_, trivial, ?_, fine, .of_eq noGens⟩
    · exact Nat.le_of_eq (hidT_size t.heap H)
    · intro b hb
      cases hb
  have ran := (F _ inB (names glob)).go callerA [] t H ⟨[.ref a], []⟩ [.ref a] [.ref a] (fun v _ => v = .bl true) (fun _ _ _ => False) room rfl ground (binds t (.ref a)) (.cons rfl .nil) wish
  refine codeAny_mono ran ?_
  intro r s' h
  match r, h with
  | .error e, h => exact (none' H e s' h).elim
  | .ok .next, h => exact False.elim h
  | .ok .brk, h => exact False.elim h
  | .ok .cont, h => exact False.elim h
  | .ok (.ret u), h =>
    obtain ⟨v, H', os, bare, un, fine', rel, rfl⟩ := h
    cases (show u = Value.bool true from rel)
    refine ⟨rfl, OldK.of_keep ?_, os, bare⟩
    intro b o e
    cases q : H b with
    | none => exact un.keep b o e q (fun z => nomatch z) (fun z => nomatch z)
    | some u =>
      rcases only b with z | ⟨ob, xs, z⟩
      · exact absurd (z.symm.trans q) (fun y => nomatch y)
      · have before := (fine b _ z).1
        have behind := (fine' b _ (un.frzs b ob _ z)).1
        rw [e] at before
        cases before
        exact behind
theorem law_callG (inK : K.In t.heap) (glob : t.heap.Ns mainGlobals mg) (blt : t.heap.Ns builtinsNs mb) (bltBoot : ∀ x : Str, x ≠ "__name__" → mb x = bootBuiltins x) (noLim : t.heap.NoLimit) (noGens : t.gens = #[])
    (script : t.heap.get? a = some { cls := .type "list", data := .seq items.toArray }) (areInts : IntsAre items ns) (short : ns.length ≤ sizeLine) (room : Room k callerA)
    (F : ∀ base : Heap, K.In base → base.Ns mainGlobals mg → FnOkG P w K mg base CX k fa fd [x] sp) (binds : ∀ (s : Shared) (u : Value), BindsTo s fd ⟨[u], []⟩ [(x, u)])
    (none' : ∀ H e s', CX [] H t (fun _ _ _ => False) e s' → False) (wish : ∀ H : Hp, Only H → SqL K H a (ns.map V.int) → sp [.ref a] H (fun v _ => v = .bl true) fun _ _ _ => False) :
    codeAny (model P w) callerA (.call (.ref fa) ⟨[.ref a], []⟩) (fun r s' => r = .ok (.ret (.bool true)) ∧ OldK t.heap s'.heap ∧ s'.os = t.os ∧ AllBare s'.gens) t := by
  have vals := vals_ints areInts
  cases kn : K.lookup a with
  | some o =>
    have o' := inK a o kn
    rw [script] at o'
    cases o'
    have o1 : Only fun _ => none := fun _ => .inl rfl
    refine call_from inK glob blt bltBoot noLim noGens script room F binds none' (fun _ => none) o1 (fun _ _ z => nomatch z) (fun _ z => absurd rfl z) (wish _ o1 (.inr ⟨_, items.toArray, _, kn, rfl, rfl, rfl, ?_, by simpa using vals⟩))
    rw [List.size_toArray, areInts.length]
    exact short
  | none =>
    let H : Hp := fun b => if b = a then some (.frz { cls := .type "list", data := .seq items.toArray } (.lst (ns.map V.int))) else none
    have here : H a = some (.frz { cls := .type "list", data := .seq items.toArray } (.lst (ns.map V.int))) := if_pos rfl
    have there : ∀ b, b ≠ a → H b = none := fun b hb => if_neg hb
    have o1 : Only H := fun b => if hb : b = a then .inr ⟨_, _, hb ▸ here⟩ else .inl (there b hb)
    refine call_from inK glob blt bltBoot noLim noGens script room F binds none' H o1 (fun b u z => ?_) (fun b z => ?_) (wish _ o1 (.inl (.inr ⟨_, here⟩)))
    · by_cases hb : b = a
      · subst hb
        rw [here] at z
        cases z
        exact ⟨script, by rw [List.length_map]; exact short, items, _, vals, script⟩
      · rw [there b hb] at z
        cases z
    · by_cases hb : b = a
      · exact ⟨hb, kn⟩
      · exact absurd (there b hb) z
end
theorem walk_ofG {l : PySem.W.OpenLaw} {k : Nat} {q : Program} {loose : List Str} {XP : (Str → Option Value) → Heap → Prop} {YP : World → Heap → Prop} {d : DefRec} {K : Params → PySem.W.Frag} {sp : PySem.W.Frag → Sp} {x : Str}
    (most : l.most = some 63) (plain : d.params.defaults = []) (room : Room k callerA) (hY : ∀ (w : World) (h : Heap), YP w h → (K w.params).In h)
    (F : ∀ (w : World) (mg : Str → Option Value) (fa : Addr) (h : Heap), (K w.params).In h → h.Ns mainGlobals mg → mg d.name = some (.ref fa) →
      ∃ fd : FuncData, (∀ (s : Shared) (u : Value), BindsTo s fd ⟨[u], []⟩ [(x, u)]) ∧ ∀ base : Heap, (K w.params).In base → base.Ns mainGlobals mg → FnOkG l.prog w (K w.params) mg base CX0 k fa fd [x] (sp (K w.params)))
    (wish : ∀ (K : PySem.W.Frag) (H : Hp) (a : Addr) (ns : List Int), ns.length ≤ 63 → SqL K H a (ns.map V.int) → sp K [.ref a] H (fun v _ => v = .bl true) fun _ _ _ => False) :
    PySem.W.WalkO q loose XP YP l.row.toRowW d [] (fun f vs => PySem.call f vs) := by
  refine Att.attach_call most plain ?_
  intro w s₀ s₁ mg mb fa o pm cd doc a vs ns G Y _ _ _ named script areInts len gens
  have inK := hY w _ Y
  obtain ⟨fd, binds, ok⟩ := F w mg fa _ inK G.T.g named
  exact law_callG inK G.T.g G.T.b G.T.builtins G.T.nolimit gens script areInts (Nat.le_trans len (by decide)) room ok binds (fun _ _ _ z => z) fun H _ hS => wish _ H a ns len hS
/-! ### repr of data -/
section
variable {X : Cx}
theorem call_repr_data (hG : X.A.guards = some []) (hu : X.A.units + 64 < cLine) : CallR X (.builtin "repr") (fun xs H Q => ∃ (p : Addr) (d : PyData), xs = [.ref p] ∧ Dp X.K H (.ref p) d ∧ d.showable = true ∧ d.hasDict = false ∧ d.depth ≤ 20 ∧ d.shown.length ≤ sizeLine ∧ Q (.str d.shown) H) := by
  intro pins s σ H xs us Q I r h
  obtain ⟨p, d, rfl, hd, h1, h2, h3, h4, q⟩ := h
  obtain ⟨u, rfl, r1⟩ := vals1 r
  cases r1
  obtain ⟨as, rd⟩ := Dp.reads I d (.ref p) (.ref p) hd rfl
  exact repr_of_reads' (h₀ := s.heap) rd h1 (fun z => by rw [h2] at z; cases z) hG (by omega) (fun _ _ e => e) (fun h' u tk k => ⟨.str d.shown, H, I.kept k, ⟨u, rfl⟩, q⟩) h4
end
/-! ### cuts: what is known behind a statement -/
theorem cut_set {te : TE} {i : Nat} {u : TS} {D : Ends} {σ : L2.St} {H : Hp} (PV : V → Hp → Prop) (h : ∀ Q : VK, (∀ v H', PV v H' → Q v H') → te σ H Q) (k : ∀ v H', PV v H' → u D (σ.set i (some v)) H') : tSeq (tAsg te (gName i)) u D σ H := h _ k
theorem cut_for {wi : TI} {g : TG} {tb u : TS} {D : Ends} {σ : L2.St} {H : Hp} (PS' : L2.St → Hp → Prop) (h : ∀ N : L2.St → Hp → Prop, (∀ σ' H', PS' σ' H' → N σ' H') → tFor wi g tb { D with nx := N } σ H) (k : ∀ σ' H', PS' σ' H' → u D σ' H') : tSeq (tFor wi g tb) u D σ H := h _ k
theorem cut_it {K : PySem.W.Frag} {te : TE} {g : TG} {tb : TS} {D : Ends} {σ : L2.St} {H : Hp} (PV : V → Hp → Prop) (h : ∀ Q : VK, (∀ v H', PV v H' → Q v H') → te σ H Q) (k : ∀ v H', PV v H' → tFor (iList K (fun _ H1 Q => Q v H1)) g tb D σ H') : tFor (iList K te) g tb D σ H := h _ k
section
variable {X : Cx}
theorem pe_lc2D {elt tg iter tg1 iter1 : Expr} {ifs ifs1 : List Expr} {scope : Scope} {own : List (Str × Nat)} {vs1 : List Nat} {pos : Pos} {wi : TI} {wi1 : Dep TI} {g g1 : Dep TG} {tt tt1 : Dep TT} {te : Dep TE} (hc : X.calm = true) (hN : X.N.Nodup) (hi : PI X tg iter wi) (ok : BlkOk X.N X.env.scope scope own) (hv : ∀ i ∈ vs1, i ∈ own.map (·.2))
    (hg : ∀ (s : Shared) (H : Hp) (C : Addr) (cl : List (Str × Addr)) (fp : List Addr), PG (X.blk s H scope (compEnvC scope cl C X.env) fp) tg (g s H C cl fp)) (ht : ∀ (s : Shared) (H : Hp) (C : Addr) (cl : List (Str × Addr)) (fp : List Addr), PTs (X.blk s H scope (compEnvC scope cl C X.env) fp) ifs (tt s H C cl fp))
    (hi1 : ∀ (s : Shared) (H : Hp) (C : Addr) (cl : List (Str × Addr)) (fp : List Addr), PI (X.blk s H scope (compEnvC scope cl C X.env) fp) tg1 iter1 (wi1 s H C cl fp))
    (hg1 : ∀ (s : Shared) (H : Hp) (C : Addr) (cl : List (Str × Addr)) (fp : List Addr), PG (X.blk s H scope (compEnvC scope cl C X.env) fp) tg1 (g1 s H C cl fp)) (ht1 : ∀ (s : Shared) (H : Hp) (C : Addr) (cl : List (Str × Addr)) (fp : List Addr), PTs (X.blk s H scope (compEnvC scope cl C X.env) fp) ifs1 (tt1 s H C cl fp))
    (he : ∀ (s : Shared) (H : Hp) (C : Addr) (cl : List (Str × Addr)) (fp : List Addr), PE (X.blk s H scope (compEnvC scope cl C X.env) fp) elt (te s H C cl fp)) (hs : ∀ x, foldedSetIterable iter X.env x = pure x := by intro _; rfl) (hs1 : ∀ env x, foldedSetIterable iter1 env x = pure x := by intro _ _; rfl)
    (eg : ∀ s H C cl fp, g s H C cl fp = g.at X := by intros; rfl) (et : ∀ s H C cl fp, tt s H C cl fp = tt.at X := by intros; rfl) (ei : ∀ s H C cl fp, wi1 s H C cl fp = wi1.at X := by intros; rfl) (eg1 : ∀ s H C cl fp, g1 s H C cl fp = g1.at X := by intros; rfl) (et1 : ∀ s H C cl fp, tt1 s H C cl fp = tt1.at X := by intros; rfl)
    (ee : ∀ s H C cl fp, te s H C cl fp = te.at X := by intros; rfl) :
    PE X (.ListComp elt [⟨tg, iter, ifs, 0⟩, ⟨tg1, iter1, ifs1, 0⟩] scope pos) (tLc2 wi (g.at X) (tt.at X) (wi1.at X) (g1.at X) (tt1.at X) (te.at X) (own.map (·.2)) vs1) :=
  pe_lc2 hc hN hi ok hv (fun s H C cl fp => eg s H C cl fp ▸ hg s H C cl fp) (fun s H C cl fp => et s H C cl fp ▸ ht s H C cl fp) (fun s H C cl fp => ei s H C cl fp ▸ hi1 s H C cl fp) (fun s H C cl fp => eg1 s H C cl fp ▸ hg1 s H C cl fp) (fun s H C cl fp => et1 s H C cl fp ▸ ht1 s H C cl fp)
    (fun s H C cl fp => ee s H C cl fp ▸ he s H C cl fp) hs hs1
end
/-! ### a walk over a tuple, a list, whatever is done in a turn -/
theorem walk_tup {K : PySem.W.Frag} {a : Addr} {xs : List V} {B : V → Hp → (Hp → Prop) → Prop} {H1 : Hp} {Qd : Hp → Prop} (Pv : Nat → Hp → Prop) (h0 : Pv 0 H1) (hl : ∀ i H, i ≤ xs.length → Pv i H → SqT K H a xs)
    (hs : ∀ i x H, xs[i]? = some x → Pv i H → B x H (Pv (i + 1))) (hd : ∀ H, Pv xs.length H → Qd H) :
    ∃ W : Nat → Nat → Hp → Prop, (∃ m, W 0 m H1) ∧ ∀ i m H, W i m H →
      ((Itt K a).stop i H ∧ Qd H) ∨ ((Itt K a).go i H ∧ ∃ Nx : Hp → Prop, (∀ H', Nx H' → ∃ m', m' < m ∧ W (i + 1) m' H') ∧ ∀ x H', (Itt K a).yld i H x H' → B x H' Nx) := by
  refine ⟨fun i m H => (m = xs.length - i ∧ i ≤ xs.length) ∧ Pv i H, ⟨xs.length, ⟨by omega, Nat.zero_le _⟩, h0⟩, ?_⟩
  rintro i m H ⟨⟨rfl, le⟩, p⟩
  have there := hl i H le p
  rcases Nat.lt_or_ge i xs.length with lt | ge
  · have item : xs[i]? = some xs[i] := List.getElem?_eq_getElem lt
    refine .inr ⟨⟨xs, xs[i], there, item⟩, Pv (i + 1), ?_, ?_⟩
    · exact fun H' p' => ⟨xs.length - (i + 1), by omega, ⟨rfl, lt⟩, p'⟩
    · rintro x H' ⟨rfl, y⟩
      exact hs i x _ (y xs there) p
  · have e : i = xs.length := by omega
    subst e
    refine .inl ⟨?_, hd H p⟩
    exact ⟨xs, there, Nat.le_refl _⟩


end My
namespace My
open PySem PySem.Spec PyProof.Rows L2 TL
/-! ### operators of an own class, by the promises of its methods -/
section
variable {X : Cx}
/-- the def at f, called with such values, keeps sp; E is what is wished if it raises -/
def Runs (X : Cx) (f : Addr) (sp : Sp) (E : XK) : Prop := ∀ (pins : List (Addr × Obj)) (σ : L2.St) (H : Hp) (s : Shared) (Q : VK) (us : List Value) (vs : List V), Inv X pins σ H s → Vals vs us → sp vs H Q E →
  wpAny (model X.prog X.w) X.A (call (.ref f) us) (EP X pins σ Q) X.xe s
/-- the same one built-in deeper -/
def Runs1 (X : Cx) (f : Addr) (sp : Sp) (E : XK) : Prop := ∀ (pins : List (Addr × Obj)) (σ : L2.St) (H : Hp) (s : Shared) (Q : VK) (us : List Value) (vs : List V), Inv X pins σ H s → Vals vs us → sp vs H Q E →
  wpAny (model X.prog X.w) X.A.in1 (call (.ref f) us) (EP X pins σ Q) X.xe s
variable {k : Nat} {f : Addr} {fd : FuncData} {ps : List Str} {sp : Sp} {E : XK} {CX : CXT} {C : Addr}
theorem Runs.ofG (F : FnOkG X.prog X.w X.K X.mg X.base CX k f fd ps sp) (room : Room k X.A) (still : X.A.guards = some []) (binds : Binds X.K fd ps []) (pass : Passes CX X E) : Runs X f sp E :=
  fun pins σ H s Q us vs I r h => run_fnG (dvs := []) F room still binds .nil pass I r (by rw [List.append_nil]; exact h)
theorem Runs.of (F : FnOk X.prog X.w X.K X.mg X.base CX k f fd ps sp) (room : Room k X.A) (binds : Binds X.K fd ps []) (pass : Passes CX X E) : Runs X f sp E :=
  fun pins σ H s Q us vs I r h => run_fn (dvs := []) F room binds .nil pass I r (by rw [List.append_nil]; exact h)
theorem Runs1.of (F : FnOk X.prog X.w X.K X.mg X.base CX k f fd ps sp) (room : Room (k + 1) X.A) (binds : Binds X.K fd ps []) (pass : Passes CX X E) : Runs1 X f sp E := by
  intro pins σ H s Q us vs I r h
  have len : (us ++ []).length = ps.length := by rw [List.append_nil, ← r.length]; exact F.len _ _ _ _ h
  have ran := F.run X.A.in1 X.stack s H ⟨us, []⟩ (us ++ []) vs Q E room.in1 I.env0.in1 (binds s us I.kIn len) (by rw [List.append_nil]; exact r) h
  refine wpAny_call (codeAny_mono ran ?_)
  intro r s' h
  match r, h with
  | .error e, h => exact pass pins σ H s e s' I h
  | .ok (.ret u), h => exact I.after h
  | .ok .next, h => exact False.elim h
  | .ok .brk, h => exact False.elim h
  | .ok .cont, h => exact False.elim h
theorem ep_back {pins : List (Addr × Obj)} {σ : L2.St} {Q : VK} {u : Value} {s' : Shared} (h : EP X pins σ Q u s') : PySem.W.CmpBack (EP X pins σ Q) u s' := by
  obtain ⟨v, H', I, r, q⟩ := h
  have no : u ≠ .notImplemented := fun z => by
    subst z
    cases v <;> first | (obtain ⟨_, z⟩ := r; exact nomatch z) | exact nomatch (show Value.notImplemented = _ from r)
  cases u <;> first | exact ⟨v, H', I, r, q⟩ | exact absurd rfl no
/-- an instance, as the library sees it -/
theorem inst_at {pins : List (Addr × Obj)} {σ : L2.St} {H : Hp} {s : Shared} {a dx : Addr} {fs : List (Str × V)} (I : Inv X pins σ H s) (h : H a = some (.ins C dx fs)) : ∃ od, PySem.W.InstAt s.heap a (PySem.W.instObj C dx) C (some od) := by
  obtain ⟨mA, O, _⟩ := ins_get I.hok h
  obtain ⟨od, J, _⟩ := O.look
  exact ⟨od, J⟩
/-- x op y, both of the class -/
def rOwn (C : Addr) (sp : Sp) (E : XK) : R2 := fun x y H Q => ∃ a dx fs b dx2 fs2, x = .ref a ∧ y = .ref b ∧ H a = some (.ins C dx fs) ∧ H b = some (.ins C dx2 fs2) ∧ sp [x, y] H Q E
theorem op_own {op : Operator} (R : Runs X f sp E) (first : PySem.W.selfFirst X.K C = true) (there : PySem.W.findIn X.K (.ref C) (PySem.dunder op.info.2) = some (some (.ref f))) (fn : PySem.W.isFn X.K (.ref f) = true) : OpR X (binaryOp op) (rOwn C sp E) := by
  intro pins s σ H x y u v Q I rx ry h
  obtain ⟨a, dx, fs, b, dx2, fs2, rfl, rfl, ha, hb, q⟩ := h
  cases rx
  cases ry
  obtain ⟨od, J⟩ := inst_at I ha
  obtain ⟨od2, J2⟩ := inst_at I hb
  obtain ⟨m, fr⟩ := I.fr
  refine PySem.W.binop_K fr I.ok.mod.kin J J2.type first there fn ?_
  exact wpAny_mono (R pins σ H s Q [.ref a, .ref b] [.ref a, .ref b] I (.cons rfl (.cons rfl .nil)) q) (fun _ _ z => ep_back z) fun _ _ z => z
theorem op_ownEq (R : Runs X f sp E) (room : X.A.units < cLine) (first : PySem.W.notFirst X.K C (.ref C) = true) (there : PySem.W.findIn X.K (.ref C) "__eq__" = some (some (.ref f))) (fn : PySem.W.isFn X.K (.ref f) = true) : OpR X (compareOp .Eq) (rOwn C sp E) := by
  intro pins s σ H x y u v Q I rx ry h
  obtain ⟨a, dx, fs, b, dx2, fs2, rfl, rfl, ha, hb, q⟩ := h
  cases rx
  cases ry
  obtain ⟨od, J⟩ := inst_at I ha
  obtain ⟨od2, J2⟩ := inst_at I hb
  obtain ⟨m, fr⟩ := I.fr
  refine PySem.W.cmp_K (op := .Eq) room fr I.ok.mod.kin J J2.type first there fn ?_
  exact wpAny_mono (R pins σ H s Q [.ref a, .ref b] [.ref a, .ref b] I (.cons rfl (.cons rfl .nil)) q) (fun _ _ z => ep_back z) fun _ _ z => z
/-- x != y where the class has __eq__ alone -/
def rOwnNe (C : Addr) (sp : Sp) (E : XK) : R2 := fun x y H Q => ∃ a dx fs b dx2 fs2, x = .ref a ∧ y = .ref b ∧ H a = some (.ins C dx fs) ∧ H b = some (.ins C dx2 fs2) ∧ sp [x, y] H (fun v H' => ∃ c, v = .bl c ∧ Q (.bl (!c)) H') E
theorem op_ownNe (R : Runs1 X f sp E) (room : X.A.units + 1 < cLine) (first : PySem.W.notFirst X.K C (.ref C) = true) (ne : PySem.W.findIn X.K (.ref C) "__ne__" = some (some (.builtin "object.__ne__"))) (under : PySem.W.subIn X.K (.ref C) (.type "object") = some true)
    (there : PySem.W.findIn X.K (.ref C) "__eq__" = some (some (.ref f))) (fn : PySem.W.isFn X.K (.ref f) = true) : OpR X (compareOp .NotEq) (rOwnNe C sp E) := by
  intro pins s σ H x y u v Q I rx ry h
  obtain ⟨a, dx, fs, b, dx2, fs2, rfl, rfl, ha, hb, q⟩ := h
  cases rx
  cases ry
  obtain ⟨od, J⟩ := inst_at I ha
  obtain ⟨od2, J2⟩ := inst_at I hb
  have K' := I.kIn
  have sub : PySem.W.Looks (model X.prog X.w) s.heap (isInstance (.ref a) (.type "object")) true := J.type.andThen (PySem.W.looks_subIn K' under)
  -- object.__ne__ asks __eq__ and turns the answer round
  have body : wpAny (model X.prog X.w) X.A (tryCompare (.ref a) "__ne__" (.ref b)) (fun r s' => ∃ w, r = some w ∧ EP X pins σ Q w s') X.xe s := by
    unfold tryCompare
    refine wpAny_bind ?_
    simp only [callSpecialIfBound?, bindSpecialIfBound?]
    refine wpAny_holding (wpAny_bind (wpAny_bind (wpAny_bind (J.type.here ((PySem.W.looks_findIn K' ne).here ?_)))))
    simp only [PySem.F.cmp_object.ne.bind]
    have fin : wpAny (model X.prog X.w) X.A (call (.builtin "object.__ne__") [.ref a, .ref b]) (fun w s' => EP X pins σ Q w s' ∧ w ≠ .notImplemented) X.xe s := by
      refine wpAny_call (codeAny_call_builtin PySem.F.cmp_object.ne.plain PySem.F.cmpEntry_ne (@PySem.W.check_slot (model X.prog X.w) _ _ s "object.__ne__" "object" "__ne__" (.ref a) [.ref b] [] _ PySem.F.cmpKind_ne PySem.F.cmpSplit_ne sub (PySem.F.cmpArgs_ne _ _) ?_))
      unfold Builtin.«object.__ne__»
      refine wpAny_bind (m := slotArgs "__ne__" 1 _) (wpAny_pure ?_)
      refine wpAny_bind (wpAny_cRoomFor (by show X.A.units + 1 < cLine; exact room) (wpAny_bind ?_))
      refine PySem.W.ifBound_K K' J there fn (wpAny_mono (R pins σ H s _ [.ref a, .ref b] [.ref a, .ref b] I (.cons rfl (.cons rfl .nil)) q) (fun w s' z => ?_) fun _ _ z => z)
      obtain ⟨v, H', I', r, c, rfl, q'⟩ := z
      cases r
      refine wpAny_bind (wpAny_truthy_bool ?_)
      exact wpAny_pure ⟨⟨.bl (!c), H', I', rfl, q'⟩, fun z => nomatch z⟩
    refine wpAny_bind (wpAny_askSetting (wpAny_ite ?_))
    split
    · refine wpAny_bind (wpAny_pure (wpAny_pure (wpAny_bind (wpAny_mono fin (fun w s' z => wpAny_pure ?_) fun _ _ z => z))))
      obtain ⟨z, no⟩ := z
      cases w <;> first | exact absurd rfl no | exact wpAny_pure ⟨_, rfl, z⟩
    · refine wpAny_tryCatch (wpAny_bind (wpAny_pure (wpAny_pure (wpAny_bind (wpAny_mono fin (fun w s' z => wpAny_pure ?_) fun _ _ z => z)))))
      obtain ⟨z, no⟩ := z
      cases w <;> first | exact absurd rfl no | exact wpAny_pure ⟨_, rfl, z⟩
  show wpAny (model X.prog X.w) X.A (richCompare .NotEq (.ref a) (.ref b)) _ _ _
  unfold richCompare
  simp only [oneThing_ref]
  refine wpAny_holding (wpAny_bind (wpAny_cRoomFor (by omega) ?_))
  refine wpAny_bind (J.type.here (wpAny_bind (J2.type.here ?_)))
  simp only [bne_self_eq_false, Bool.false_eq_true, if_false]
  refine wpAny_bind (wpAny_pure ?_)
  refine wpAny_bind (wpAny_mono body (fun r s' z => ?_) fun _ _ z => z)
  obtain ⟨w, rfl, z⟩ := z
  exact wpAny_pure z
end
/-! ### defs, methods, properties, makers that look at no guard, by their promises -/
structure CalN (P : Program) (w : World) (K : PySem.W.Frag) (mg : Str → Option Value) (base : Heap) (x : Str) (k : Nat) (ps : List Str) (sp : Sp) : Prop where
  ex : ∃ f fd, FnOk P w K mg base CX0 k f fd ps sp ∧ mg x = some (.ref f) ∧ PySem.W.keepIn K (.ref f) = true ∧ Binds K fd ps []
theorem CalN.of {P : Program} {w : World} {K : PySem.W.Frag} {mg : Str → Option Value} {base : Heap} {x q : Str} {k : Nat} {ps : List Str} {sp : Sp} {st : Stmt} {f : Addr} {fd : FuncData}
    (F : Fun K x q st f fd) (hm : mg x = some (.ref f)) (hb : Binds K fd ps []) (ok : FnOk P w K mg base CX0 k f fd ps sp) : CalN P w K mg base x k ps sp := ⟨f, fd, ok, hm, F.kp, hb⟩
theorem CalN.lift {P : Program} {w : World} {K : PySem.W.Frag} {mg : Str → Option Value} {base : Heap} {x : Str} {k : Nat} {ps : List Str} {sp : Sp} (c : CalN P w K mg base x k ps sp) : Cal P w K mg base x k ps sp := by
  obtain ⟨f, fd, ok, hm, kp, hb⟩ := c.ex
  exact ⟨f, fd, .lift ok, hm, kp, hb⟩
structure MetC (P : Program) (w : World) (K : PySem.W.Frag) (mg : Str → Option Value) (base : Heap) (C : Addr) (m : Str) (k : Nat) (ps : List Str) (sp : Sp) : Prop where
  ex : ∃ f fd, FnOk P w K mg base CX0 k f fd ps sp ∧ Meth K C m f ∧ Binds K fd ps []
structure PrpC (P : Program) (w : World) (K : PySem.W.Frag) (mg : Str → Option Value) (base : Heap) (C : Addr) (m : Str) (k : Nat) (ps : List Str) (sp : Sp) : Prop where
  ex : ∃ p g fd, FnOk P w K mg base CX0 k g fd ps sp ∧ PropOf K C m p g ∧ Binds K fd ps []
structure MakC (P : Program) (w : World) (K : PySem.W.Frag) (mg : Str → Option Value) (base : Heap) (C : Addr) (k : Nat) (ps : List Str) (sp : Sp) : Prop where
  ex : ∃ f fd, FnOk P w K mg base CX0 k f fd ps sp ∧ Mk K C f ∧ Binds K fd ps []
section
variable {X : Cx} {x m : Str} {k : Nat} {ps : List Str} {sp : Sp} {e o : Expr} {es : List Expr} {ta : TE} {t : TA} {p pos apos : Pos} {C : Addr}
theorem pe_callN (c : CalN X.prog X.w X.K X.mg X.base x k ps sp) (room : Room k X.A) (hg : Gl X x) (ha : PA X (e :: es) t) (hdb : (x == ("__debug__" : Str)) = false := by decide)
    (he : starEach (e :: es) X.env = (false, eval e X.env) :: starEach es X.env := by rfl) (hpl : (backTo pos (starEach es X.env)).any (·.1) = false := by rfl) :
    PE X (.Call (.Name x p) (e :: es) [] pos) (tCall sp [] E0 t) := by
  obtain ⟨f, fd, ok, hm, kp, hb⟩ := c.ex
  exact pe_call ok room hg hm kp hb .nil pass0 ha hdb he hpl
theorem pe_methC {pl : Sem Bool} (c : MetC X.prog X.w X.K X.mg X.base C m k ps sp) (cls : Cls X.K C) (room : Room k X.A) (ho : PE X o ta) (ha : PA X (e :: es) t)
    (hst : starEach (e :: es) X.env = (false, eval e X.env) :: starEach es X.env := by rfl) (hpl : (backTo pos (starEach es X.env)).any (·.1) = false := by rfl)
    (ht : eval (.Call (.Attribute o m apos) (e :: es) [] pos) X.env = (do
      let ov ← eval o X.env
      standAt apos.atName
      let (f, first) ← holding [ov] (getMethod ov m pl)
      callWith pos f first (backTo pos (starEach (e :: es) X.env)) (backToKw pos (keywordEach [] X.env))) := by rfl) :
    PE X (.Call (.Attribute o m apos) (e :: es) [] pos) (tMeth C m sp [] E0 ta t) := by
  obtain ⟨f, fd, ok, hm, hb⟩ := c.ex
  exact pe_meth ho cls hm ok room hb .nil pass0 ha hst hpl ht
theorem pe_propC (c : PrpC X.prog X.w X.K X.mg X.base C m k ps sp) (cls : Cls X.K C) (room : Room (k + 1) X.A) (he : PE X e ta) (hab : attributeBase e m X.env (eval e X.env) = eval e X.env := by rfl) :
    PE X (.Attribute e m pos) (tProp C sp [] E0 ta) := by
  obtain ⟨q, g, fd, ok, hp, hb⟩ := c.ex
  exact pe_prop he cls hp ok room hb .nil pass0 hab
theorem pe_makeC (c : MakC X.prog X.w X.K X.mg X.base C k ps sp) (room : Room (k + 1) X.A) (hg : Gl X x) (hm : X.mg x = some (.ref C)) (ha : PA X (e :: es) t) (hdb : (x == ("__debug__" : Str)) = false := by decide)
    (he : starEach (e :: es) X.env = (false, eval e X.env) :: starEach es X.env := by rfl) (hpl : (backTo pos (starEach es X.env)).any (·.1) = false := by rfl) :
    PE X (.Call (.Name x p) (e :: es) [] pos) (tMake C sp [] E0 t) := by
  obtain ⟨f, fd, ok, M, hb⟩ := c.ex
  exact pe_make M ok room hg hm hb .nil pass0 ha hdb he hpl
theorem op_ownC {op : Operator} (c : MetC X.prog X.w X.K X.mg X.base C m k ps sp) (room : Room k X.A) (first : PySem.W.selfFirst X.K C = true) (name : PySem.dunder op.info.2 = m := by rfl) : OpR X (binaryOp op) (rOwn C sp E0) := by
  obtain ⟨f, fd, ok, M, hb⟩ := c.ex
  exact op_own (Runs.of ok room hb pass0) first (name ▸ M.at_) M.fn
theorem op_eqC (c : MetC X.prog X.w X.K X.mg X.base C "__eq__" k ps sp) (room : Room k X.A) (first : PySem.W.notFirst X.K C (.ref C) = true) : OpR X (compareOp .Eq) (rOwn C sp E0) := by
  obtain ⟨f, fd, ok, M, hb⟩ := c.ex
  exact op_ownEq (Runs.of ok room hb pass0) room.units0 first M.at_ M.fn
theorem op_neC (c : MetC X.prog X.w X.K X.mg X.base C "__eq__" k ps sp) (room : Room (k + 1) X.A) (first : PySem.W.notFirst X.K C (.ref C) = true) (ne : PySem.W.findIn X.K (.ref C) "__ne__" = some (some (.builtin "object.__ne__")))
    (under : PySem.W.subIn X.K (.ref C) (.type "object") = some true) : OpR X (compareOp .NotEq) (rOwnNe C sp E0) := by
  obtain ⟨f, fd, ok, M, hb⟩ := c.ex
  exact op_ownNe (Runs1.of ok room hb pass0) (by have := room.units; omega) first ne under M.at_ M.fn
end
/-- a property that hands out a field -/
theorem _root_.L2.Fun.getter {P : Program} {w : World} {K : PySem.W.Frag} {mg : Str → Option Value} {base : Heap} {x qual g : Str} {st : Stmt} {f C : Addr} {fd : FuncData} {N : List Str} {p1 p2 p3 : Pos} (F : Fun K x qual st f fd)
    (S : FnScope N ["self"] (defScope st)) (c : Cls K C) (n : NoAttr K C g) (hN : N[0]? = some ("self" : Str) := by rfl) (body : defBody st = [.Return (some (.Attribute (.Name "self" p1) g p2)) p3] := by rfl) : FnOk P w K mg base CX0 1 f fd ["self"] (getSp C g) := by
  obtain ⟨oc, od, kV, doc, pm, an, cv, ct, osl, rfl, found, isCode⟩ := F.ex
  exact fn_getter found isCode S hN body c n
section
variable {X : Cx} {x : Str} {k : Nat} {ps : List Str} {sp : Sp} {e : Expr} {es : List Expr} {tf : TE} {t : TA} {p pos : Pos} {C : Addr}
/-- x(e, ..), x a name of the def that holds the class -/
def tMakeV (C : Addr) (sp : Sp) (tf : TE) (t : TA) : TE := fun σ H Q => tf σ H fun v H1 => v = .ref C ∧ tMake C sp [] E0 t σ H1 Q
theorem pe_makeV (c : MakC X.prog X.w X.K X.mg X.base C k ps sp) (room : Room (k + 1) X.A) (hf : PE X (.Name x p) tf) (ha : PA X (e :: es) t)
    (he : starEach (e :: es) X.env = (false, eval e X.env) :: starEach es X.env := by rfl) (hpl : (backTo pos (starEach es X.env)).any (·.1) = false := by rfl) :
    PE X (.Call (.Name x p) (e :: es) [] pos) (tMakeV C sp tf t) := by
  obtain ⟨f, fd, ok, M, hb⟩ := c.ex
  refine ⟨fun pins s σ H Q I h => wpAny_Call_Name_kw (thn (hf.run pins s σ H _ I h) fun g s0 got => ?_)⟩
  obtain ⟨v, H0, I0, r0, rfl, q0⟩ := got
  cases r0
  exact PySem.W.callWith_K (h₀ := X.base) I0.ok.mod.kin M.kp (thn (ha.run pos pins s0 σ H0 _ I0 q0) fun us s1 ⟨vs, H1, I1, r, q⟩ => ⟨I1.kIn, run_make M ok room hb .nil pass0 I1 r q⟩) he hpl
end

/-! ### max of a list of ints, with a default -/
section
variable {prog : Program} {w : World} {A : Around} {E : Value → Shared → Prop} {s : Shared}
theorem gt_pair {a b : Int} {t u : Tok} {Q : Value → Shared → Prop} (h : Q (.bool (decide (a > b))) s) : wpAny (model prog w) A (richCompare .Gt (.int a t) (.int b u)) Q E s := by
  refine CmpOf.ints_gt (P := fun i v => (i = 0 ∧ v = .int a t) ∨ (i = 1 ∧ v = .int b u)) (fun i => if i = 0 then a else b) ?_ 0 1 _ _ s Q E (.inl ⟨rfl, rfl⟩) (.inr ⟨rfl, rfl⟩) h
  rintro i v (⟨rfl, rfl⟩ | ⟨rfl, rfl⟩)
  · exact ⟨t, rfl⟩
  · exact ⟨u, rfl⟩
/-- the greatest of b and of f j, .., k of them -/
def topOf (f : Nat → Int) : Int → Nat → Nat → Int
  | b, _, 0 => b
  | b, j, k + 1 => topOf f (if f j > b then f j else b) (j + 1) k
theorem topOf_ge (f : Nat → Int) : ∀ (k j : Nat) (b : Int), b ≤ topOf f b j k ∧ ∀ i, i < k → f (j + i) ≤ topOf f b j k
  | 0, _, b => ⟨Int.le_refl _, fun i h => absurd h (Nat.not_lt_zero _)⟩
  | k + 1, j, b => by
    obtain ⟨h1, h2⟩ := topOf_ge f k (j + 1) (if f j > b then f j else b)
    have h0 : b ≤ (if f j > b then f j else b) ∧ f j ≤ (if f j > b then f j else b) := by
      by_cases h : f j > b
      · rw [if_pos h]
        omega
      · rw [if_neg h]
        omega
    refine ⟨Int.le_trans h0.1 h1, fun i hi => ?_⟩
    cases i with
    | zero => exact Int.le_trans h0.2 h1
    | succ i =>
      have := h2 i (by omega)
      rw [show j + 1 + i = j + (i + 1) by omega] at this
      exact this
theorem topOf_mem (f : Nat → Int) : ∀ (k j : Nat) (b : Int), topOf f b j k = b ∨ ∃ i, i < k ∧ topOf f b j k = f (j + i)
  | 0, _, _ => .inl rfl
  | k + 1, j, b => by
    show topOf f (if f j > b then f j else b) (j + 1) k = b ∨ _
    rcases topOf_mem f k (j + 1) (if f j > b then f j else b) with h | ⟨i, hi, h⟩
    · by_cases q : f j > b
      · rw [if_pos q] at h
        exact .inr ⟨0, Nat.succ_pos k, by show topOf f (if f j > b then f j else b) (j + 1) k = f j; rw [if_pos q]; exact h⟩
      · rw [if_neg q] at h
        exact .inl (by rw [if_neg q]; exact h)
    · exact .inr ⟨i + 1, Nat.succ_lt_succ hi, by show topOf f (if f j > b then f j else b) (j + 1) k = f (j + (i + 1)); rw [h]; congr 1; omega⟩
def listObj (vs : Array Value) (c : Nat) : Obj := { cls := .type "list", dict := none, data := .seq vs c, slots := #[] }
variable {R : Result → Shared → Prop} {I best : Addr} {fp wr : List Addr} {n : Nat} {P : Nat → Value → Prop} {St : Nat → Heap → Prop}
theorem max_name : (toString "max" ++ toString ".loop" : String) = "max.loop" := by decide
/-- behind the first item -/
theorem maxd_rest (W : Walks prog w A.in1 I fp wr n P St) (f : Nat → Int) (num : ∀ j v, P j v → ∃ t, v = .int (f j) t) (apart : best ∉ fp) (kw : List (Str × Value)) :
    ∀ (k j : Nat) (t : Shared) (b : Int) (u : Tok) (c : Nat), n = j + k → St j t.heap → t.heap.get? best = some (listObj #[.int b u, .int b u] c) →
      (∀ u' h' tk, (∀ a o, a ∉ wr → a ≠ best → t.heap.get? a = some o → h'.get? a = some o) → R (.ok (.ret (.int (topOf f b j k) u'))) { t with heap := h', toks := tk }) →
      codeAny (model prog w) A (.builtin "max.loop" ⟨[.ref I, .none, .ref best], kw⟩) R t
  | 0, j, t, b, u, c, e, st, there, fin => by
    have notWr : best ∉ wr := fun z => apart (W.sub _ z)
    refine codeAny_builtin PySem.F.entry_max_loop ?_
    rw [Around.under_plainId PySem.F.plain_max_loop _]
    show wpAny _ A.in1 (seqItems? (.ref best) >>= _) _ _ t
    refine wpAny_bind (wpAny_seqItems there
      rfl ?_)
    show wpAny _ A.in1 (tryCatch (pyNext (.ref I)) _ >>= _) _ _ t
    have st' : St n t.heap := by rw [e]; exact st
    refine wpAny_bind (wpAny_tryCatch (W.done t _ _ st' fun h1 tk1 old => ?_))
    have there1 := old best _ notWr there
    show wpAny _ A.in1 (updateSeq best (fun _ => #[]) >>= _) _ _ _
    refine wpAny_bind (wpAny_updateSeq there1 rfl (wpAny_bind
      (wpAny_letGo (wpAny_pure ?_))))
    exact fin u _ tk1 fun a o na nb q => (Heap.get?_update_other _ _ (Ne.symm nb)).trans (old a o na q)
  | k + 1, j, t, b, u, c, e, st, there, fin => by
    have notWr : best ∉ wr := fun z => apart (W.sub _ z)
    refine codeAny_builtin PySem.F.entry_max_loop ?_
    rw [Around.under_plainId PySem.F.plain_max_loop _]
    show wpAny _ A.in1 (seqItems? (.ref best) >>= _) _ _ t
    refine wpAny_bind (wpAny_seqItems there
      rfl ?_)
    show wpAny _ A.in1 (tryCatch (pyNext (.ref I)) _ >>= _) _ _ t
    refine wpAny_bind (wpAny_tryCatch (W.item j t _ _ (by omega) st fun v h1 tk1 pv st1 old => ?_))
    obtain ⟨tv, rfl⟩ := num j v pv
    have there1 := old best _ notWr there
    show wpAny _ A.in1 (tryCatch (holding [Value.int (f j) tv, Value.int (f j) tv] (richCompare .Gt (.int (f j) tv) (.int b u) >>= _)) _ >>= _) _ _ _
    refine wpAny_bind (wpAny_tryCatch (wpAny_holding (wpAny_bind (gt_pair ?_))))
    refine wpAny_bind (wpAny_holding (wpAny_truthy_bool ?_))
    refine wpAny_bind (wpAny_letGo (wpAny_pure ?_))
    by_cases gt : f j > b
    · have top : topOf f b j (k + 1) = topOf f (f j) (j + 1) k := by
        show topOf f (if f j > b then f j else b) (j + 1) k = _
        rw [if_pos gt]
      rw [decide_eq_true gt]
      simp only [if_true]
      refine wpAny_bind (wpAny_updateSeq there1 rfl (wpAny_bind
        (wpAny_letGo ?_)))
      rw [max_name]
      refine wpAny_pure ⟨plainId_quiet PySem.F.plain_max_loop _, maxd_rest W f num apart kw k (j + 1) _ (f j) tv _ (by omega) (W.frame _ _ _ st1 fun a na o q => ?_) (Heap.get?_update_self _ there1 rfl) fun u' h' tk later => ?_⟩
      · exact (Heap.get?_update_other _ _ (fun z : best = a => apart (by rw [z]; exact na))).trans q
      · rw [← top]
        exact fin u' h' tk fun a o na nb q => later a o na nb ((Heap.get?_update_other _ _ (Ne.symm nb)).trans (old a o na q))
    · have top : topOf f b j (k + 1) = topOf f b (j + 1) k := by
        show topOf f (if f j > b then f j else b) (j + 1) k = _
        rw [if_neg gt]
      rw [decide_eq_false gt]
      simp only [Bool.false_eq_true, if_false]
      refine wpAny_bind (wpAny_letGo ?_)
      rw [max_name]
      refine wpAny_pure ⟨plainId_quiet PySem.F.plain_max_loop _, maxd_rest W f num apart kw k (j + 1) _ b u c (by omega) st1 there1 fun u' h' tk later => ?_⟩
      rw [← top]
      exact fin u' h' tk fun a o na nb q => later a o na nb (old a o na q)
theorem args_maxd (a d : Value) : argsOk "max" ⟨[a], [("default", d)]⟩ := by
  unfold argsOk
  kernel_rfl
/-- the loop from its start -/
theorem maxd_loop (W : Walks prog w A.in1 I fp wr n P St) (f : Nat → Int) (num : ∀ j v, P j v → ∃ t, v = .int (f j) t) (apart : best ∉ fp) {z : Int} {tz : Tok} {kn : Str} (t : Shared) (c : Nat) (st : St 0 t.heap) (there : t.heap.get? best = some (listObj #[] c))
    (fin : ∀ m u h' tk, (∀ a o, a ∉ wr → a ≠ best → t.heap.get? a = some o → h'.get? a = some o) → (n = 0 → m = z) → (0 < n → (∃ i, i < n ∧ m = f i) ∧ ∀ i, i < n → f i ≤ m) → R (.ok (.ret (.int m u))) { t with heap := h', toks := tk }) :
    codeAny (model prog w) A (.builtin "max.loop" ⟨[.ref I, .none, .ref best], [(kn, .int z tz)]⟩) R t := by
  have notWr : best ∉ wr := fun z => apart (W.sub _ z)
  refine codeAny_builtin PySem.F.entry_max_loop ?_
  rw [Around.under_plainId PySem.F.plain_max_loop _]
  show wpAny _ A.in1 (seqItems? (.ref best) >>= _) _ _ t
  refine wpAny_bind (wpAny_seqItems there
    rfl ?_)
  show wpAny _ A.in1 (tryCatch (pyNext (.ref I)) _ >>= _) _ _ t
  cases e : n with
  | zero =>
    subst e
    refine wpAny_bind (wpAny_tryCatch (W.done t _ _ st fun h1 tk1 old => ?_))
    refine wpAny_bind (wpAny_rule (wpAny_pure ?_))
    exact fin z tz h1 tk1 (fun a o na _ q => old a o na q) (fun _ => rfl) fun h => absurd h (Nat.lt_irrefl 0)
  | succ k =>
    refine wpAny_bind (wpAny_tryCatch (W.item 0 t _ _ (by omega) st fun v h1 tk1 pv st1 old => ?_))
    obtain ⟨tv, rfl⟩ := num 0 v pv
    have there1 := old best _ notWr there
    show wpAny _ A.in1 (updateSeq best (fun _ => #[Value.int (f 0) tv, Value.int (f 0) tv]) >>= _) _ _ _
    refine wpAny_bind (wpAny_updateSeq there1
      rfl ?_)
    rw [max_name]
    refine wpAny_pure ⟨plainId_quiet PySem.F.plain_max_loop _, maxd_rest W f num apart [(kn, .int z tz)] k 1 _ (f 0) tv _ (by omega) (W.frame _ _ _ st1 fun a na o q => ?_) (Heap.get?_update_self _ there1 rfl) fun u' h' tk later => ?_⟩
    · exact (Heap.get?_update_other _ _ (fun z : best = a => apart (by rw [z]; exact na))).trans q
    · refine fin _ u' h' tk (fun a o na nb q => later a o na nb ((Heap.get?_update_other _ _ (Ne.symm nb)).trans (old a o na q))) (fun h => by omega) fun _ => ?_
      obtain ⟨g1, g2⟩ := topOf_ge f k 1 (f 0)
      refine ⟨?_, fun i hi => ?_⟩
      · rcases topOf_mem f k 1 (f 0) with h | ⟨i, hi, h⟩
        · exact ⟨0, by omega, h⟩
        · exact ⟨1 + i, by omega, h⟩
      · cases i with
        | zero => exact g1
        | succ i =>
          have := g2 i (by omega)
          rw [show 1 + i = i + 1 by omega] at this
          exact this
theorem ints_get : ∀ {its : List Value} {ns : List Int}, IntsAre its ns → ∀ (j : Nat) (v : Value), its[j]? = some v → ∃ t, v = .int (ns.getD j 0) t
  | _, _, .nil, j, v, h => by simp at h
  | _, _, .cons k t r, 0, v, h => ⟨t, (Option.some.inj h).symm⟩
  | _, _, .cons k t r, j + 1, v, h => ints_get r j v h
theorem call_maxd {l : Addr} {its : List Value} {ns : List Int} {z : Int} {tz : Tok} {Q : Value → Shared → Prop} (calm : A.handled = none) (hl : s.heap.IsList l its.toArray) (nums : IntsAre its ns)
    (fin : ∀ m u h' tk, (∀ a o, s.heap.get? a = some o → h'.get? a = some o) → (ns = [] → m = z) → (ns ≠ [] → m ∈ ns ∧ ∀ y ∈ ns, y ≤ m) → Q (.int m u) { s with heap := h', toks := tk }) :
    wpAny (model prog w) A (call (.builtin "max") [.ref l] [("default", .int z tz)]) Q E s := by
  have ok : checkBuiltinCall "max" ⟨[.ref l], [("default", .int z tz)]⟩ = pure () := by
    simp only [checkBuiltinCall, PySem.F.kind_max]
    have h := args_maxd (.ref l) (.int z tz)
    cases e : Manifest.signature? "max" with
    | none => rfl
    | some sig =>
      simp only [argsOk, e] at h
      exact h
  refine wpAny_call (codeAny_call_builtin PySem.F.plain_max PySem.F.entry_max ?_)
  rw [ok]
  refine wpAny_pure ?_
  show wpAny _ A.in1 (Builtin.Builtins.bindParams "max" ["key", "default"] 0 ⟨[], [("default", .int z tz)]⟩ >>= _) _ _ s
  refine wpAny_bind (wpAny_of_eq (show Builtin.Builtins.bindParams "max" ["key", "default"] 0 ⟨[], [("default", .int z tz)]⟩ = pure [none, some (.int z tz)] from rfl) ?_)
  refine wpAny_bind (wpAny_pure ?_)
  have lt : l < s.heap.objs.size := by
    obtain ⟨_, e, _⟩ := hl
    exact Heap.lt_size e
  have len := nums.length
  refine wpAny_bind (wpAny_pyIter_list hl ?_)
  refine wpAny_bind (wpAny_newObj_type ?_)
  rw [max_name]
  have W := Walks.list (prog := prog) (w := w) (A := A.in1) calm s.heap.objs.size l (Nat.ne_of_lt lt) its.toArray
  refine wpAny_pure ⟨plainId_quiet PySem.F.plain_max_loop _, ?_⟩
  refine maxd_loop W (fun i => ns.getD i 0) (fun j v hv => ?_) ?_ _ 0 ?_ (Heap.get?_push_size _ rfl) fun m u h' tk old h0 h1 => ?_
  · exact ints_get nums j v (by simpa using hv)
  · intro hm
    simp only [List.mem_cons, List.not_mem_nil, or_false, Heap.size_push] at hm
    rcases hm with h | h
    · exact absurd h (Nat.succ_ne_self _)
    · exact absurd h (Nat.ne_of_gt (Nat.lt_succ_of_lt lt))
  · exact ⟨⟨_, Heap.get?_push_of_some _ (Heap.get?_push_size _ rfl), rfl, rfl⟩, (hl.push _).push _⟩
  · have size : its.toArray.size = ns.length := by rw [List.size_toArray]; exact len
    refine fin m u h' tk (fun a o q => ?_) (fun e => h0 (by rw [size, e]; rfl)) fun ne => ?_
    · have la : a < s.heap.objs.size := Heap.lt_size q
      refine old a o (fun hm => ?_) (fun e => ?_) (Heap.get?_push_of_some _ (Heap.get?_push_of_some _ q))
      · rw [List.mem_singleton.mp hm] at la
        exact absurd la (Nat.lt_irrefl _)
      · rw [e] at la
        exact absurd (Nat.lt_of_lt_of_le la (by rw [Heap.size_push]; exact Nat.le_succ _)) (Nat.lt_irrefl _)
    · obtain ⟨⟨i, hi, e⟩, top⟩ := h1 (by rw [size]; exact List.length_pos_iff.mpr ne)
      rw [size] at hi top
      refine ⟨?_, fun y hy => ?_⟩
      · rw [e, List.getD_eq_getElem?_getD, List.getElem?_eq_getElem hi]
        exact List.getElem_mem hi
      · obtain ⟨j, hj, e⟩ := List.getElem_of_mem hy
        have := top j hj
        rw [List.getD_eq_getElem?_getD, List.getElem?_eq_getElem hj] at this
        rw [← e]
        exact this
end
section
variable {X : Cx} {e d : Expr} {ta td : TE} {p pos kpos : Pos}
/-- max(e, default=d) -/
def tMaxD (K : PySem.W.Frag) (ta td : TE) : TE := fun σ H Q => ta σ H fun x H1 => tCons td tNil σ H1 fun vs H2 => ∃ y, vs = [y] ∧ ∃ (a : Addr) (ns : List Int) (z : Int), x = .ref a ∧ y = .int z ∧ SqL K H2 a (ns.map V.int) ∧
  ∀ m, (ns = [] → m = z) → (ns ≠ [] → m ∈ ns ∧ ∀ y ∈ ns, y ≤ m) → Q (.int m) H2
theorem pe_maxD (calm : X.calm = true) (hg : Gl X "max") (hm : X.mg "max" = none) (ha : PE X e ta) (hd : PE X d td) (hs : starEach [e] X.env = (false, eval e X.env) :: starEach [] X.env := by rfl)
    (he : backTo pos (starEach [e] X.env) = (false, eval e X.env) :: backTo pos (starEach [] X.env) := by rfl) (hp : (backTo pos (starEach [e] X.env)).any (·.1) = false := by rfl)
    (hall : (backToKw pos (keywordEach [⟨some "default", d, kpos⟩] X.env)).all (·.1.isSome) = true := by rfl) (hkw : (backToKw pos (keywordEach [⟨some "default", d, kpos⟩] X.env)).any (·.1.isNone) = false := by rfl)
    (hn : (backToKw pos (keywordEach [⟨some "default", d, kpos⟩] X.env)).filterMap (·.1) = [("default" : Str)] := by rfl) :
    PE X (.Call (.Name "max" p) [e] [⟨some "default", d, kpos⟩] pos) (tMaxD X.K ta td) := by
  refine ⟨fun pins s σ H Q I h => ?_⟩
  refine wpAny_Call_Name_kw (ld_blt I hg hm (show bootBuiltins "max" = some (.builtin "max") by decide +kernel) ?_)
  refine PyProof.Rows.callWith_kw (id := "max") ?_ he hp hall hkw
  rw [hs]
  show wpAny _ _ (spliced ((false, eval e X.env) :: backTo pos (starEach [] X.env))) _ _ s
  refine Calls.spliced_cons (thn (ha.run pins s σ H _ I h) fun u s1 ⟨x, H1, I1, r1, q1⟩ => ?_)
  refine Calls.spliced_nil ?_
  refine thn ((pk_cons (nm := some "default") (kpos := kpos) hd (pk_nil (X := X))).run pos pins s1 σ H1 (fun vs H2 => ∃ y, vs = [y] ∧ ∃ (a : Addr) (ns : List Int) (z : Int), x = .ref a ∧ y = .int z ∧ SqL X.K H2 a (ns.map V.int) ∧
    ∀ m, (ns = [] → m = z) → (ns ≠ [] → m ∈ ns ∧ ∀ y ∈ ns, y ≤ m) → Q (.int m) H2) I1 q1) ?_
  · rintro us s2 ⟨vs, H2, I2, rv, y, rfl, a, ns, z, rfl, rfl, hl, q⟩
    rw [hn]
    cases rv with
    | cons r2 r3 =>
      cases r3
      obtain ⟨tz, rfl⟩ := r2
      cases r1
      obtain ⟨its, ri, pl, _⟩ := I2.list hl
      show wpAny _ _ (call (.builtin "max") [.ref a] [("default", .int z tz)]) _ _ _
      exact call_maxd (I2.ok.hd calm) pl.isList ri.ints fun m u h' tk old h0 h1 => ⟨.int m, H2, I2.kept old, ⟨u, rfl⟩, q m h0 h1⟩
end


end My
namespace My
open PySem PySem.Spec PyProof.Rows L2 TL
/-! ### len, [], an operator with an int, of an own class; classmethods -/
section
variable {X : Cx} {k : Nat} {f C : Addr} {ps : List Str} {sp : Sp} {E : XK} {e o b : Expr} {es : List Expr} {x m : Str} {ta tb : TE} {t : TA} {p pos apos : Pos}
def rLenO (C : Addr) (sp : Sp) : List V → Hp → VK → Prop := fun xs H Q => ∃ a dx fs, xs = [.ref a] ∧ H a = some (.ins C dx fs) ∧ sp [.ref a] H (fun v H' => ∃ n : Nat, v = .int n ∧ (n : Int) < 2 ^ 63 ∧ Q (.int n) H') E0
theorem call_lenO (c : MetC X.prog X.w X.K X.mg X.base C "__len__" k ps sp) (room : Room (k + 1) X.A) : CallR X (.builtin "len") (rLenO C sp) := by
  obtain ⟨f, fd, ok, M, hb⟩ := c.ex
  intro pins s σ H xs us Q I r h
  obtain ⟨a, dx, fs, rfl, ha, q⟩ := h
  rw [Vals.ref1 r]
  obtain ⟨od, J⟩ := inst_at I ha
  obtain ⟨mm, fr⟩ := I.fr
  refine PySem.W.len_K fr I.ok.mod.kin J M.at_ M.fn ?_
  refine wpAny_mono (Runs1.of ok room hb pass0 pins σ H s _ [.ref a] [.ref a] I (.cons rfl .nil) q) (fun u s' z => ?_) fun _ _ z => z
  obtain ⟨v, H', I', rv, n, rfl, hn, q'⟩ := z
  obtain ⟨tk, rfl⟩ := rv
  exact ⟨⟨Int.natCast_nonneg n, hn⟩, .int n, H', I'.tok _, ⟨_, rfl⟩, q'⟩
def rIxO (C : Addr) (sp : Sp) : R2 := fun x y H Q => ∃ a dx fs, x = .ref a ∧ H a = some (.ins C dx fs) ∧ sp [x, y] H Q E0
theorem pe_ixO (c : MetC X.prog X.w X.K X.mg X.base C m k ps sp) (room : Room (k + 1) X.A) (ha : PE X o ta) (hi : PE X b tb) (fn : ∀ f, Meth X.K C m f → PySem.W.fnIn X.K f = true) (hm : m = "__getitem__" := by rfl)
    (hsl : ∀ (x : Addr) (i : Value), subscripted b true (.ref x) i = runValue (.builtin "lifetime.subscript" ⟨[.ref x, i], []⟩) := by intro _ _; with_unfolding_all rfl) : PE X (.Subscript o b pos) (tOp (rIxO C sp) ta tb) := by
  subst hm
  obtain ⟨f, fd, ok, M, hb⟩ := c.ex
  refine ⟨fun pins s σ H Q I h => ?_⟩
  refine Subscript_ (binT ha hi I h fun v u s2 x y H2 I2 rx ry q => ?_)
  obtain ⟨a, dx, fs, rfl, hx, q⟩ := q
  cases rx
  obtain ⟨od, J⟩ := inst_at I2 hx
  obtain ⟨mm, fr⟩ := I2.fr
  exact PySem.W.sub_K fr I2.ok.mod.kin J M.at_ (fn f M) M.fn (Runs1.of ok room hb pass0 pins σ H2 s2 _ [.ref a, u] [.ref a, y] I2 (.cons rfl (.cons ry .nil)) q) (hsl a u)
/-- x op i, i an int -/
structure OwnI (K : PySem.W.Frag) (C : Addr) (op : Operator) : Prop where
  first : PySem.W.selfFirst K C = true
  rev : ∃ rc, PySem.W.findIn K (.ref C) (PySem.dunderR op.info.2) = some rc ∧ (rc = none ∨ ∃ g : Addr, rc = some (.ref g))
  i1 : ∃ fo, PySem.W.findIn K (.type "int") (PySem.dunder op.info.2) = some fo
  i2 : ∃ ro, PySem.W.findIn K (.type "int") (PySem.dunderR op.info.2) = some ro
  sub : PySem.W.subIn K (.type "int") (.ref C) = some false
def rOwnI (C : Addr) (sp : Sp) : R2 := fun x y H Q => ∃ a dx fs, ∃ i : Int, x = .ref a ∧ y = .int i ∧ H a = some (.ins C dx fs) ∧ sp [x, y] H Q E0
theorem op_ownI {op : Operator} (c : MetC X.prog X.w X.K X.mg X.base C m k ps sp) (room : Room k X.A) (O : OwnI X.K C op) (name : PySem.dunder op.info.2 = m := by rfl) : OpR X (binaryOp op) (rOwnI C sp) := by
  obtain ⟨f, fd, ok, M, hb⟩ := c.ex
  intro pins s σ H x y u v Q I rx ry h
  obtain ⟨a, dx, fs, i, rfl, rfl, ha, q⟩ := h
  cases rx
  obtain ⟨tk, rfl⟩ := ry
  obtain ⟨od, J⟩ := inst_at I ha
  obtain ⟨mm, fr⟩ := I.fr
  obtain ⟨first, ⟨rc, r1, r2⟩, ⟨fo, i1⟩, ⟨ro, i2⟩, sub⟩ := O
  refine PySem.W.ksp_binT fr I.ok.mod.kin J (T := "int") rfl first (name ▸ M.at_) M.fn r1 r2 i1 i2 sub ?_
  exact wpAny_mono (Runs.of ok room hb pass0 pins σ H s Q [.ref a, .int i tk] [.ref a, .int i] I (.cons rfl (.cons ⟨tk, rfl⟩ .nil)) q) (fun _ _ z => ep_back z) fun _ _ z => z
/-- a classmethod by its promise -/
structure CmtC (P : Program) (w : World) (K : PySem.W.Frag) (mg : Str → Option Value) (base : Heap) (C : Addr) (m : Str) (k : Nat) (ps : List Str) (sp : Sp) : Prop where
  ex : ∃ f fd mc p, FnOk P w K mg base CX0 k f fd ps sp ∧ ClX.CRead K C mc ∧ ClX.CMet K C mc m p f ∧ Binds K fd ps []
theorem FnR.ofC {P : Program} {w : World} {K : PySem.W.Frag} {mg : Str → Option Value} {base : Heap} {k : Nat} {f : Addr} {fd : FuncData} {ps : List Str} {sp : Sp} (ok : FnOk P w K mg base CX0 k f fd ps sp) (hb : Binds K fd ps []) : FnR P w K mg base CX0 k f sp := by
  intro A outer s H us vs Q E hr e0 r h
  have there : K.In s.heap := e0.mod.kin.keeps (fun b o e => (e0.bs b o e).1)
  have len : (us ++ []).length = ps.length := by rw [List.append_nil, ← r.length]; exact ok.len _ _ _ _ h
  have hv := hb s us there len
  rw [List.append_nil] at hv
  exact ok.run A outer s H ⟨us, []⟩ us vs Q E hr e0 hv r h
theorem pe_cmethC {pl : Sem Bool} (c : CmtC X.prog X.w X.K X.mg X.base C m k ps sp) (room : Room k X.A) (ho : PE X o ta) (ha : PA X (e :: es) t)
    (hst : starEach (e :: es) X.env = (false, eval e X.env) :: starEach es X.env := by rfl) (hpl : (backTo pos (starEach es X.env)).any (·.1) = false := by rfl)
    (ht : eval (.Call (.Attribute o m apos) (e :: es) [] pos) X.env = (do
      let ov ← eval o X.env
      standAt apos.atName
      let (f, first) ← holding [ov] (getMethod ov m pl)
      callWith pos f first (backTo pos (starEach (e :: es) X.env)) (backToKw pos (keywordEach [] X.env))) := by rfl) :
    PE X (.Call (.Attribute o m apos) (e :: es) [] pos) (ClX.tCMeth C sp E0 ta t) := by
  obtain ⟨f, fd, mc, p, ok, hr, hm, hb⟩ := c.ex
  exact ClX.pe_cmeth ho hr hm (FnR.ofC ok hb) room pass0 ha hst hpl ht
end


end My
namespace My
open PySem PySem.Spec PyProof.Rows L2 TL
/-! ### == of an instance and anything; str of an instance -/
section
variable {X : Cx} {k : Nat} {f C : Addr} {ps : List Str} {sp : Sp} {E : XK}
def rOwnX (K : PySem.W.Frag) (C : Addr) (sp : Sp) (E : XK) : R2 := fun x y H Q => ∃ a dx fs t0, x = .ref a ∧ H a = some (.ins C dx fs) ∧ TyX K H y t0 ∧ PySem.W.notFirst K C t0 = true ∧ sp [x, y] H Q E
theorem op_eqX (c : MetC X.prog X.w X.K X.mg X.base C "__eq__" k ps sp) (room : Room k X.A) : OpR X (compareOp .Eq) (rOwnX X.K C sp E0) := by
  obtain ⟨f, fd, ok, M, hb⟩ := c.ex
  intro pins s σ H x y u v Q I rx ry h
  obtain ⟨a, dx, fs, t0, rfl, ha, ty, hn, q⟩ := h
  cases rx
  obtain ⟨od, J⟩ := inst_at I ha
  obtain ⟨m, fr⟩ := I.fr
  obtain ⟨Ph, Z, p, hx⟩ := kit_of I ry ty
  refine PySem.W.cmp_K (op := .Eq) room.units0 fr I.ok.mod.kin J (Z.ty _ _ I.kIn p) hn M.at_ M.fn ?_
  exact wpAny_mono (Runs.of ok room hb pass0 pins σ H s Q [.ref a, v] [.ref a, y] I (.cons rfl (.cons ry .nil)) q) (fun _ _ z => ep_back z) fun _ _ z => z
def rStrO (C : Addr) (sp : Sp) : List V → Hp → VK → Prop := fun xs H Q => ∃ a dx fs, xs = [.ref a] ∧ H a = some (.ins C dx fs) ∧ sp [.ref a] H (fun v H' => ∃ y, v = .str y ∧ Q (.str y) H') E0
theorem call_strO (c : MetC X.prog X.w X.K X.mg X.base C "__str__" k ps sp) (room : Room (k + 2) X.A) : CallR X (.type "str") (rStrO C sp) := by
  obtain ⟨f, fd, ok, M, hb⟩ := c.ex
  intro pins s σ H xs us Q I r h
  obtain ⟨a, dx, fs, rfl, ha, q⟩ := h
  rw [Vals.ref1 r]
  obtain ⟨od, J⟩ := inst_at I ha
  refine PySem.W.kso_call (by have := room.units; show X.A.units + 1 + 1 < cLine; omega) I.kIn J M.at_ M.fn ?_
  have len : [Value.ref a].length = ps.length := ok.len _ _ _ _ q
  have ran := ok.run X.A.in1.in1 X.stack s H ⟨[.ref a], []⟩ [Value.ref a] [V.ref a] _ E0 room.in1.in1 I.env0.in1.in1 (hb s [.ref a] I.kIn len) (.cons rfl .nil) q
  refine wpAny_call (codeAny_mono ran ?_)
  intro r s' h
  match r, h with
  | .error e, h => exact pass0 pins σ H s e s' I h
  | .ok (.ret u), h =>
    obtain ⟨v, H', I', rv, y, rfl, q'⟩ := I.after h
    obtain ⟨tk, rfl⟩ := rv
    exact ⟨.str y, H', I', ⟨tk, rfl⟩, q'⟩
  | .ok .next, h => exact False.elim h
  | .ok .brk, h => exact False.elim h
  | .ok .cont, h => exact False.elim h
end


end My
namespace My
open PySem PySem.Spec PyProof.Rows L2 TL
/-! ### x in o, o of an own class; for x in o, o's __iter__ hands out iter(a tuple) -/
section
variable {X : Cx} {k : Nat} {f C : Addr} {ps : List Str} {sp : Sp}
def rInO (C : Addr) (sp : Sp) (neg : Bool) : R2 := fun y x H Q => ∃ a dx fs, x = .ref a ∧ H a = some (.ins C dx fs) ∧ sp [.ref a, y] H (fun v H' => ∃ c, v = .bl c ∧ Q (.bl (if neg then !c else c)) H') E0
theorem op_inO (c : MetC X.prog X.w X.K X.mg X.base C "__contains__" k ps sp) (room : Room k X.A) : OpR X (compareOp .In) (rInO C sp false) := by
  obtain ⟨f, fd, ok, M, hb⟩ := c.ex
  intro pins s σ H y x u v Q I ry rx h
  obtain ⟨a, dx, fs, rfl, ha, q⟩ := h
  cases rx
  obtain ⟨od, J⟩ := inst_at I ha
  obtain ⟨mm, fr⟩ := I.fr
  refine PySem.W.in_K fr I.ok.mod.kin J M.at_ M.fn (wpAny_mono (Runs.of ok room hb pass0 pins σ H s _ [.ref a, _] [.ref a, y] I (.cons rfl (.cons ry .nil)) q) (fun r s' z => ?_) fun _ _ z => z)
  obtain ⟨w', H', I', r', b, rfl, q'⟩ := z
  cases r'
  exact wpAny_truthy_bool ⟨.bl b, H', I', rfl, q'⟩
theorem op_notInO (c : MetC X.prog X.w X.K X.mg X.base C "__contains__" k ps sp) (room : Room k X.A) : OpR X (compareOp .NotIn) (rInO C sp true) := by
  obtain ⟨f, fd, ok, M, hb⟩ := c.ex
  intro pins s σ H y x u v Q I ry rx h
  obtain ⟨a, dx, fs, rfl, ha, q⟩ := h
  cases rx
  obtain ⟨od, J⟩ := inst_at I ha
  obtain ⟨mm, fr⟩ := I.fr
  refine PySem.W.notIn_K fr I.ok.mod.kin J M.at_ M.fn (wpAny_mono (Runs.of ok room hb pass0 pins σ H s _ [.ref a, _] [.ref a, y] I (.cons rfl (.cons ry .nil)) q) (fun r s' z => ?_) fun _ _ z => z)
  obtain ⟨w', H', I', r', b, rfl, q'⟩ := z
  cases r'
  exact wpAny_truthy_bool ⟨.bl (!b), H', I', rfl, q'⟩
end
/-- a tuple's iterator at its turn i -/
def TiO (l it : Addr) (i : Nat) : HO := .ext fun h => h.IsTupleIter it l i
theorem tiO_ok {P : Program} {w : World} {H : Hp} {h : Heap} {l it : Addr} {i : Nat} (e : h.IsTupleIter it l i) : ObjOk P w H h it (TiO l it i) := ⟨e, let ⟨_, ho, _⟩ := e; ⟨_, ho⟩, fun h1 h2 p k => p.at fun o q => k _ q⟩
section
variable {X : Cx}
def rIterT (K : PySem.W.Frag) (n : Nat) : List V → Hp → VK → Prop := fun xs H Q => ∃ (l : Addr) (zs : List V), xs = [.ref l] ∧ SqT K H l zs ∧ ∀ it, H it = none → n ≤ it → Q (.ref it) (upd H it (TiO l it 0))
theorem call_iterT : CallR X (.builtin "iter") (rIterT X.K X.s_0.heap.objs.size) := by
  intro pins s σ H xs us Q I r h
  obtain ⟨l, zs, rfl, hq, q⟩ := h
  obtain ⟨u, rfl, ru⟩ := vals1 r
  cases ru
  obtain ⟨its, rv, pl, hz⟩ := I.tuple hq
  refine Calls.call_function_entry (by decide +kernel) (by decide +kernel) PySem.W.kdk_entry_iter (PySem.W.kdk_args_iter _) ?_
  unfold Builtin.«iter»
  refine wpAny_bind (m := someArgs "iter" 1 2 _) (wpAny_of_eq (a := [Value.ref l]) (by first | rfl | kernel_rfl!) ?_)
  show wpAny _ _ (pyIter (.ref l) >>= _) _ _ _
  refine wpAny_bind (wpAny_pyIter_tuple (show s.heap.IsTuple l its.toArray from pl) ?_)
  refine wpAny_pure ⟨_, rfl, ?_⟩
  exact ⟨.ref s.heap.objs.size, _, I.laid (t' := s.toks) (fun b u e => Heap.get?_push_of_some _ e) (Nat.le_refl _) (tiO_ok ⟨_, Heap.get?_push_size _ rfl, rfl, rfl⟩), rfl, q _ (I.hok.fresh (Nat.le_refl _)) I.sz⟩
end
/-- a def whose promise knows how many objects there were when it was called -/
structure FnOkN (P : Program) (w : World) (K : PySem.W.Frag) (mg : Str → Option Value) (base : Heap) (CX : CXT) (k : Nat) (f : Addr) (fd : FuncData) (ps : List Str) (sp : Nat → Sp) : Prop where
  arity : ∀ n vs H Q E, sp n vs H Q E → vs.length = ps.length
  go : ∀ (B : Around) (fr : List Env) (t : Shared) (H : Hp) (ar : Args) (us : List Value) (vs : List V) (Q : VK) (E : XK), Room k B → Env0 P w K mg base B fr t H → BindsTo t fd ar (ps.zip us) → Vals vs us → sp t.heap.objs.size vs H Q E →
    codeAny (model P w) B (.call (.ref f) ar) (CR CX fr P w H t Q E) t
section
variable {P : Program} {w : World} {K : PySem.W.Frag} {mg : Str → Option Value} {base : Heap}
theorem _root_.L2.Fun.okN {CX : CXT} {x qual : Str} {st : Stmt} {f : Addr} {fd : FuncData} {N ps : List Str} {k : Nat} {sp : Nat → Sp} (F : Fun K x qual st f fd) (S : FnScope N ps (defScope st)) (ar : ∀ n vs H Q E, sp n vs H Q E → vs.length = ps.length)
    (body : ∀ (cv : Value) (B : Around) (fr : List Env) (t : Shared) (H : Hp) (vs : List V) (Q : VK) (E : XK), Room k (B.deeper (envOfC qual (defScope st) t.heap.objs.size f cv)) → sp t.heap.objs.size vs H Q E →
      ∃ r, PSs (cxOf CX P w K mg base N qual (defScope st) f cv B fr t H E).nox (defBody st) r ∧ r { nx := fun _ H' => Q .non H', rt := Q } (start N vs) H) : FnOkN P w K mg base CX (k + 1) f fd ps sp := by
  obtain ⟨oc, od, kV, doc, pm, an, cv, ct, osl, rfl, found, isCode⟩ := F.ex
  refine ⟨ar, fun B fr t H args us vs Q E room env binds vals wish => ?_⟩
  have there : K.In t.heap := env.mod.kin.keeps (fun b o e => (env.bs b o e).1)
  have noLim : t.heap.NoLimit := env.mod.nolimit.keeps (fun b o e => (env.bs b o e).1)
  have kinds : ∀ y ∈ ps.zip us, (defScope st).names.lookup y.1 = some .local ∨ ((defScope st).names.lookup y.1 = some .cell ∧ ((cellsFrom (t.heap.objs.size + 1) (defScope st).names []).lookup y.1).isSome = true) := by
    rintro ⟨n, v⟩ hy
    exact (S.par n (List.of_mem_zip hy).1).imp id fun q => ⟨q, PySem.W.cellsFrom_some _ _ _ (.inl q)⟩
  refine codeAny_call_function room.depth (there _ _ found)
    rfl S.co S.gen rfl (PySem.W.codeRec_of there isCode) (binds _ _ _ _
      (wpAny_newFunctionEnv_cells S.kind kinds fun env' eq t1 start1 => ?_))
  subst eq
  refine ⟨noLim.keeps start1.toInCall.keep, codeAny_func ?_⟩
  obtain ⟨r, runs, ends⟩ := body cv B fr t H vs Q E (room.deeper _) wish
  refine wpAny_mono (runs.nox.run [] t1 (start N vs) H _ (inv_start S room.hd env (ar _ _ _ _ _ wish) vals start1) ends) ?_ fun _ _ z => z
  intro fl t2 got
  cases fl with
  | ret u =>
    obtain ⟨v, σ', H', J, rv, q⟩ := got
    exact ⟨v, H', J.os, J.bare, J.base, J.hok, rv, q⟩
  | next =>
    obtain ⟨σ', H', J, q⟩ := got
    exact ⟨V.non, H', J.os, J.bare, J.base, J.hok, rfl, q⟩
  | brk => exact got.choose_spec.choose_spec.2.elim
  | cont => exact got.choose_spec.choose_spec.2.elim
end
structure MetN (P : Program) (w : World) (K : PySem.W.Frag) (mg : Str → Option Value) (base : Heap) (C : Addr) (m : Str) (k : Nat) (ps : List Str) (sp : Nat → Sp) : Prop where
  ex : ∃ f fd, FnOkN P w K mg base CX0 k f fd ps sp ∧ Meth K C m f ∧ Binds K fd ps []
section
variable {X : Cx} {k : Nat} {f C : Addr} {fd : FuncData} {ps : List Str} {sp : Nat → Sp} {ds : List Value} {dvs : List V} {E : XK} {CX : CXT} {tg l : Expr} {tl : TE}
theorem run_fnN {pins : List (Addr × Obj)} {σ : L2.St} {H : Hp} {s : Shared} {Q : VK} {us : List Value} {vs : List V} (F : FnOkN X.prog X.w X.K X.mg X.base CX k f fd ps sp) (room : Room k X.A)
    (binds : Binds X.K fd ps ds) (dv : Vals dvs ds) (pass : Passes CX X E) (I : Inv X pins σ H s) (rel : Vals vs us) (wish : sp s.heap.objs.size (vs ++ dvs) H Q E) : wpAny (model X.prog X.w) X.A (call (.ref f) us) (EP X pins σ Q) X.xe s := by
  have both := rel.append dv
  have len : (us ++ ds).length = ps.length := both.length.symm.trans (F.arity _ _ _ _ _ wish)
  have ran := F.go X.A X.stack s H ⟨us, []⟩ (us ++ ds) (vs ++ dvs) Q E room I.env0 (binds s us I.kIn len) both wish
  refine wpAny_call (codeAny_mono ran ?_)
  intro r s' h
  match r, h with
  | .error e, h => exact pass pins σ H s e s' I h
  | .ok (.ret u), h => exact I.after h
  | .ok .next, h => exact False.elim h
  | .ok .brk, h => exact False.elim h
  | .ok .cont, h => exact False.elim h
/-- for .. in e, e of an own class whose __iter__ hands out a tuple's new iterator -/
def iOwn (K : PySem.W.Frag) (C : Addr) (sp : Nat → Sp) (tl : TE) : TI := fun σ H R => tl σ H fun x H1 => ∃ a dx fs, x = .ref a ∧ H1 a = some (.ins C dx fs) ∧
  ∀ n, sp n [.ref a] H1 (fun v H2 => ∃ it l, v = .ref it ∧ n ≤ it ∧ H2 it = some (TiO l it 0) ∧ (∃ xs, SqT K (ItX.dropH H2 it) l xs) ∧ R (Itt K l) (ItX.dropH H2 it)) E0
theorem pi_own (c : MetN X.prog X.w X.K X.mg X.base C "__iter__" k ps sp) (room : Room k X.A) (hl : PE X l tl) : PI X tg l (iOwn X.K C sp tl) := by
  refine ⟨fun pins s σ H R I h => ?_⟩
  refine thn (hl.run pins s σ H _ I h) fun v s1 ⟨x, H1, I1, r1, q1⟩ => ?_
  obtain ⟨a, dx, fs, rfl, ha, q⟩ := q1
  cases r1
  obtain ⟨f, fd, ok, M, hb⟩ := c.ex
  obtain ⟨od, J⟩ := inst_at I1 ha
  obtain ⟨mm, fr⟩ := I1.fr
  refine PySem.W.owit_iter fr I1.ok.mod.kin J M.at_ M.fn ?_
  refine wpAny_mono (run_fnN (us := [.ref a]) (vs := [.ref a]) ok room hb .nil pass0 I1 (.cons rfl .nil) (by rw [List.append_nil]; exact q s1.heap.objs.size)) (fun u s' z => ?_) fun _ _ z => z
  obtain ⟨v, H2, I2, rv, it, l, rfl, hn, hit, hq, hR⟩ := z
  cases rv
  have st : s'.heap.IsTupleIter it l 0 := (I2.hok it _ hit).1
  unfold PySem.W.OwitIt
  refine wpAny_specialOf (let ⟨o, ho, hc, _⟩ := st; ⟨o, ho, hc⟩) F.slot_tuple_iterator_next.lookup ?_
  have hit' := hit
  unfold TiO at hit'
  refine ⟨it, [it], _, _, ItX.dropH H2 it, rfl, ItX.inv_drop I2 hit', turn_tuple l it, st, fun b hb => ?_, hR⟩
  have e : b = it := by simpa using hb
  rw [e]
  exact ItX.inv_fp I2 hit (Nat.le_trans I1.sz hn)
end


end My
namespace My
open PySem PySem.Spec PyProof.Rows L2 TL
/-! ### {**a, **b} -/
section
variable {prog : Program} {w : World} {κ : Type} [DecidableEq κ] {knd : PySem.KeyKind prog w κ} {A : Around} {E : Value → Shared → Prop} {s : Shared} {d : Addr} {kvs : List (κ × Value)}
theorem wpAny_dictPut_pairs {k : κ} {key v : Value} {Q : Unit → Shared → Prop} (hkey : knd.is k key = true) (hm : s.heap.DictOf knd d kvs) (hQ : ∀ h', Heap.DictOf knd h' d (stored kvs k v) → Heap.SameBut d s.heap h' → Q () { s with heap := h' }) (hsz : kvs.length ≤ sizeLine) :
    wpAny (model prog w) A (dictPut d (knd.hash k) key v) Q E s := by
  obtain ⟨o, es, ep, ho, hc, hd, hk, hp, hn⟩ := id hm
  have hes : es.size ≤ sizeLine := by
    have := hp.length
    rw [Array.length_toList] at this
    omega
  have hidx : es.findIdx? (fun e => knd.is k e.key) = kvs.findIdx? (fun kv => decide (kv.1 = k)) := by
    rw [← hp.findIdx k]
    cases es
    simp
  unfold dictPut
  refine wpAny_bind (wpAny_dictFind_of hkey ho hd hk ?_)
  cases hi : es.findIdx? (fun e => knd.is k e.key) with
  | none =>
    have hnot := not_mem_of_findIdx_none (hidx ▸ hi)
    have hany : ¬ (kvs.any fun kv => decide (kv.1 = k)) = true := fun h => by
      obtain ⟨kv, h1, h2⟩ := List.any_eq_true.mp h
      exact hnot (List.mem_map.mpr ⟨kv, h1, of_decide_eq_true h2⟩)
    refine wpAny_updateDictKeys ho hd (hQ _ ⟨_, _, ep + 1, Heap.get?_update_self _ ho (Obj.isFreed_of_dict (Obj.data_mapDictKeys hd _)), hc.mapDictKeys _, Obj.data_mapDictKeys hd _, hk.push hkey v, ?_, ?_⟩ (Heap.SameBut.update _ _ _)) hes (by rw [Array.size_push]; exact Nat.le_refl _)
    · rw [stored, if_neg hany]
      have := hp.append hkey (knd.hash k) v
      cases es
      simpa using this
    · rw [stored, if_neg hany, List.map_append, List.nodup_append]
      refine ⟨hn, by simp, fun a ha b hb e => ?_⟩
      have e2 : b = k := by simpa using hb
      rw [e, e2] at ha
      exact hnot ha
  | some i =>
    have any := any_of_findIdx_some (hidx ▸ hi)
    refine wpAny_updateDict ho hd (hQ _ ⟨_, _, ep, Heap.get?_update_self _ ho (Obj.isFreed_of_dict (Obj.data_mapDict hd _)), hc.mapDict _, Obj.data_mapDict hd _, hk.modify i v, ?_, ?_⟩ (Heap.SameBut.update _ _ _)) (by rw [Array.size_modify]; exact Nat.le_refl _)
    · rw [stored, if_pos any]
      have hl : es.toList.findIdx? (fun e => knd.is k e.key) = some i := by
        rw [← hi]
        cases es
        simp
      have := hp.modify hn hl v
      cases es
      simpa using this
    · rw [stored, if_pos any, keys_map_store]
      exact hn
theorem wpAny_mergeMapping {o : Addr} {more : List (κ × Value)} {Q : Unit → Shared → Prop} (flat : ∀ k a, knd.is k (.ref a) = false) (hdo : d ≠ o) (hoS : (o == sysModules) = false) (hd : s.heap.DictOf knd d kvs) (ho : s.heap.DictOf knd o more)
    (hQ : ∀ h', Heap.DictOf knd h' d (merged kvs more) → Heap.DictOf knd h' o more → Heap.SameBut d s.heap h' → Q () { s with heap := h' }) (hsz : kvs.length + more.length ≤ sizeLine) :
    wpAny (model prog w) A (mergeMapping d (.ref o) false) Q E s := by
  have hTI : s.TypeIs (.ref o) "dict" := ho.typeIs
  obtain ⟨od, esd, epd, hod, hcd, hdd, hkd, hpd, hnd⟩ := id hd
  obtain ⟨oo, eso, epo, hoo, hco, hdo', hko, hpo, hno⟩ := id ho
  unfold mergeMapping
  refine wpAny_bind (wpAny_isInstance hTI isSubtype_dict_dict ?_)
  simp only [if_true]
  refine wpAny_bind (wpAny_specialOf hTI F.slot_dict_iter.lookup ?_)
  simp only [beq_self_eq_true, pure_bind, hoS, Bool.false_eq_true, if_false]
  have loop : ∀ s1 : Shared, s1 = s → wpAny (model prog w) A (do
      let x ← dictEntries o
      let epoch ← dictEpoch o
      forIn (List.range x.size) PUnit.unit fun i __s => do
          let y ← dictEntries o
          match y[i]? with
            | some e => do
              holding [e.key, e.val] (dictPut d e.hash e.key e.val)
              let z ← dictEpoch o
              if (z != epoch) = true then do
                  unsupported "dict.changed-during-merge"
                  pure (ForInStep.yield PUnit.unit)
                else pure (ForInStep.yield PUnit.unit)
            | x => do
              unsupported "dict.changed-during-merge"
              pure (ForInStep.yield PUnit.unit)
      pure ()) Q E s1 := by
    intro s1 e1
    rw [e1]
    clear e1 s1
    refine wpAny_bind (wpAny_dictEntries hoo hdo' (wpAny_bind (wpAny_dictEpoch hoo hdo' (wpAny_bind ?_))))
    have hlen : eso.size = more.length := by
      have := hpo.length
      rw [Array.length_toList] at this
      exact this
    refine wpAny_forIn_list _ (fun rest _ s' => ∃ i h', rest = (List.range eso.size).drop i ∧ i ≤ eso.size ∧ s' = { s with heap := h' } ∧ Heap.DictOf knd h' d (merged kvs (more.take i)) ∧ Heap.SameBut d s.heap h') _ ?_ ?_ _ _ ⟨0, s.heap, by rw [List.drop_zero], Nat.zero_le _, rfl, hd, Heap.SameBut.refl _ _⟩
    · rintro x rest b s' ⟨i, h', er, hi, rfl, hm, sb⟩
      have hlt : i < eso.size := by
        rcases Nat.lt_or_ge i eso.size with c | c
        · exact c
        · rw [List.drop_of_length_le (by rw [List.length_range]; exact c)] at er
          cases er
      rw [List.drop_eq_getElem_cons (by rw [List.length_range]; exact hlt), List.getElem_range] at er
      cases er
      have hoo' : h'.get? o = some oo := (sb.2 o (fun z => hdo z.symm)).trans hoo
      refine wpAny_bind (wpAny_dictEntries hoo' hdo' ?_)
      rw [Array.getElem?_eq_getElem hlt]
      dsimp only
      have he : eso.toList[x]? = some eso[x] := by rw [Array.getElem?_toList, Array.getElem?_eq_getElem hlt]
      have hm2 : more[x]? = some more[x] := List.getElem?_eq_getElem (by omega)
      obtain ⟨k1, v1⟩ := hpo.get? he (k := more[x].1) (v := more[x].2) hm2
      obtain ⟨k', q1, q2⟩ := hko eso[x] (Array.getElem_mem hlt)
      have ek : k' = more[x].1 := knd.inj _ _ _ q1 k1
      rw [q2, ek]
      refine wpAny_bind (wpAny_holding (wpAny_dictPut_pairs k1 hm (fun h2 hm' sb' => ?_) ?_))
      · have hoo2 : h2.get? o = some oo := (sb'.2 o (fun z => hdo z.symm)).trans hoo'
        refine wpAny_bind (wpAny_dictEpoch hoo2 hdo' ?_)
        simp only [bne_self_eq_false, Bool.false_eq_true, if_false]
        refine wpAny_pure ⟨x + 1, h2, rfl, hlt, rfl, ?_, sb.trans sb'⟩
        rw [merged_take_succ _ _ _ _ hm2, ← v1]
        exact hm'
      · have := merged_length_le kvs (more.take x)
        rw [List.length_take] at this
        omega
    · rintro b s' ⟨i, h', er, hi, rfl, hm, sb⟩
      have hge : eso.size ≤ i := by
        rcases Nat.lt_or_ge i eso.size with c | c
        · have := congrArg List.length er
          rw [List.length_drop, List.length_range] at this
          simp at this
          omega
        · exact c
      rw [List.take_of_length_le (by omega)] at hm
      exact wpAny_pure (hQ h' hm (ho.sameBut sb (fun z => hdo z.symm)) sb)
  refine wpAny_bind (wpAny_dictEntries hod hdd ?_)
  split
  · refine wpAny_bind (wpAny_dictEntries hoo hdo' ?_)
    refine wpAny_bind ?_
    rw [← Array.forIn_toList]
    refine wpAny_forIn_list _ (fun rest _ s' => s' = s ∧ ∀ e ∈ rest, e ∈ eso) _ ?_ ?_ _ _ ⟨rfl, fun e he => by simpa using he⟩
    · rintro e rest b s' ⟨rfl, hm⟩
      obtain ⟨k, q1, _⟩ := hko e (hm e (List.mem_cons_self ..))
      cases ek : e.key with
      | ref a =>
        rw [ek, flat] at q1
        cases q1
      | _ => exact wpAny_pure ⟨rfl, fun e he => hm e (List.mem_cons_of_mem _ he)⟩
    · rintro b s' ⟨rfl, _⟩
      exact loop _ rfl
  · exact loop s rfl
end

section
variable {X : Cx}
theorem merge_step {pins : List (Addr × Obj)} {σ : L2.St} {H : Hp} {s : Shared} (I : L2.Inv X pins σ H s) {A : Around} {D p : Addr} {m ks : List (Key × V)} (hD : H D = some (.dK m)) (hp : Rd H p (.dK ks)) (ne : D ≠ p) (hz : m.length + ks.length ≤ sizeLine) {E : Value → Shared → Prop} {Q : Unit → Shared → Prop} (q : ∀ s', L2.Inv X pins σ (upd H D (.dK (mergeK m ks))) s' → Q () s') : wpAny (model X.prog X.w) A (mergeMapping D (.ref p) false) Q E s := by
  obtain ⟨z1, lo, vs1, r1, d1⟩ := dk_rd I.hok hp
  obtain ⟨z0, hd, vs0, r0, d0⟩ := dk_of I.hok hD
  refine wpAny_mergeMapping (knd := mixKind X.prog X.w) (fun k a => by cases k <;> rfl) ne lo d0 d1 (fun h' dm _ sb => q _ ?_) (by rw [← r0.length, ← r1.length]; exact hz)
  have he : ∃ q, h'.get? D = some q := by
    obtain ⟨q, _, _, hq, _⟩ := dm
    exact ⟨q, hq⟩
  exact d_write I (by rw [hD]; trivial) sb he (dk_new (by have := length_mergeK ks m; omega) hd (KV.merge r1 r0) dm)
def tDMM (ta tb : TE) : TE := fun σ H Q => ∀ D, H D = none → ta σ (upd H D (.dK [])) fun x H1 => ∃ p ks, x = .ref p ∧ D ≠ p ∧ H1 D = some (.dK []) ∧ Rd H1 p (.dK ks) ∧ ks.length ≤ 100 ∧ tb σ (upd H1 D (.dK (mergeK [] ks))) fun y H2 => ∃ q ls, y = .ref q ∧ D ≠ q ∧ H2 D = some (.dK (mergeK [] ks)) ∧ Rd H2 q (.dK ls) ∧ ls.length ≤ 100 ∧ Q (.ref D) (upd H2 D (.dK (mergeK (mergeK [] ks) ls)))
theorem pe_dmerge2 {a b : Expr} {ta tb : TE} {pos : Pos} (ha : PE X a ta) (hb : PE X b tb) : PE X (.Dict [none, none] [a, b] pos) (tDMM ta tb) := by
  refine ⟨fun pins s σ H Q I q => ?_⟩
  simp only [eval]
  refine wpAny_bind (wpAny_standAt ?_)
  simp only [evalEachOpt, evalEach, List.map, List.zip_cons_cons, List.zip_nil_right]
  unfold dictDisplay
  simp only [List.forIn_cons, List.forIn_nil, List.isEmpty_nil, if_true, pure_bind, bind_pure, evalOpt]
  have mrg : ∀ {D : Addr} {m : Value} {s' : Shared} {E' : Value → Shared → Prop} {Q' : Unit → Shared → Prop}, (∀ E'', wpAny (model X.prog X.w) X.A (mergeMapping D m false) Q' E'' s') → wpAny (model X.prog X.w) X.A
      ((((holding [Value.ref D, m] (mergeMapping D m false)).onRaise fun x => do
          let _ ← holding [Value.ref D, m, x] (runValue (Code.builtin "proto.let_go" { }))
          pure ()).tryCatch fun e => do
        let z ← isInstance e (Value.type "AttributeError")
        if z = true then do
            rule "dict.display.not-a-mapping"
            let n ← typeNameOf m
            raiseErrorMade "TypeError" (toString "'" ++ toString n ++ toString "' object is not a mapping")
            throw e
          else throw e).onRaise fun x => do
        let _ ← holding [Value.ref D, x] (runValue (Code.builtin "proto.let_go" { }))
        pure ()) Q' E' s' := fun h => by
    refine wpAny_onRaise (wpAny_tryCatch (wpAny_onRaise (wpAny_holding (h _))))
  refine wpAny_bind (wpAny_bind ?_)
  refine wpAny_bind (wpAny_alloc ?_)
  have hn := I.hok.fresh (Nat.le_refl s.heap.objs.size)
  have I1 := I.laid (t' := s.toks) (fun b o e => Heap.get?_push_of_some { cls := .type "dict", data := .dict #[] } e) (Nat.le_refl s.heap.objs.size) (dk_empty s.heap I.big)
  have q0 := q _ hn
  generalize s.heap.objs.size = D at hn I1 q0 ⊢
  refine wpAny_bind (wpAny_holding (wpAny_bind (thn (ha.run pins _ σ _ _ I1 q0) fun u s1 got => ?_)))
  obtain ⟨x, H1, I2, r1, p, ks, rfl, ne, hD, hp, k100, q1⟩ := got
  obtain rfl : u = .ref p := r1
  refine wpAny_bind (wpAny_standAt (wpAny_pure ?_))
  have z100 : (100 : Nat) + 100 ≤ sizeLine := by show _ ≤ _; decide
  refine wpAny_bind (mrg fun E'' => merge_step I2 hD hp ne (by show 0 + _ ≤ _; omega) fun s2 I3 => wpAny_pure ?_)
  dsimp only
  refine wpAny_bind ?_
  simp only [List.isEmpty_nil, if_true, pure_bind]
  refine wpAny_bind (wpAny_holding (wpAny_bind (thn (hb.run pins _ σ _ _ I3 q1) fun u2 s3 got => ?_)))
  obtain ⟨y, H2, I4, r2, p2, ls, rfl, ne2, hD2, hp2, l100, q2⟩ := got
  obtain rfl : u2 = .ref p2 := r2
  refine wpAny_bind (wpAny_standAt (wpAny_pure ?_))
  have lk := length_mergeK ks []
  rw [List.length_nil] at lk
  refine wpAny_bind (mrg fun E'' => merge_step I4 hD2 hp2 ne2 (by omega) fun s4 I5 => wpAny_pure ?_)
  dsimp only
  refine wpAny_pure ?_
  simp only [List.isEmpty_nil, if_true, pure_bind]
  exact wpAny_pure ⟨.ref D, _, I5, rfl, q2⟩
end


end My
namespace My
open PySem PySem.Spec PyProof.Rows L2 TL
/-! ### methods with a star parameter, by their promise over the values and the tuple of the rest -/
def starSp (n : Nat) (sp : Sp) : Sp := fun vs H Q E => ∃ ws rest, vs = ws ++ rest ∧ ws.length = n ∧ rest.length ≤ sizeLine ∧ ∀ p, H p = none → sp (ws ++ [V.ref p]) (upd H p (.tup rest)) Q E
structure MetR (P : Program) (w : World) (K : PySem.W.Frag) (mg : Str → Option Value) (base : Heap) (C : Addr) (m : Str) (k : Nat) (sp : Sp) : Prop where
  ex : ∃ f, FnR P w K mg base CX0 k f sp ∧ Meth K C m f
structure CmtR (P : Program) (w : World) (K : PySem.W.Frag) (mg : Str → Option Value) (base : Heap) (C : Addr) (m : Str) (k : Nat) (sp : Sp) : Prop where
  ex : ∃ f mc p, FnR P w K mg base CX0 k f sp ∧ ClX.CRead K C mc ∧ ClX.CMet K C mc m p f
section
variable {X : Cx} {x m : Str} {k : Nat} {sp : Sp} {e o : Expr} {es : List Expr} {ta : TE} {t : TA} {p pos apos : Pos} {C : Addr}
theorem pe_methR {pl : Sem Bool} (c : MetR X.prog X.w X.K X.mg X.base C m k sp) (cls : Cls X.K C) (room : Room k X.A) (ho : PE X o ta) (ha : PA X (e :: es) t)
    (hst : starEach (e :: es) X.env = (false, eval e X.env) :: starEach es X.env := by rfl) (hpl : (backTo pos (starEach es X.env)).any (·.1) = false := by rfl)
    (ht : eval (.Call (.Attribute o m apos) (e :: es) [] pos) X.env = (do
      let ov ← eval o X.env
      standAt apos.atName
      let (f, first) ← holding [ov] (getMethod ov m pl)
      callWith pos f first (backTo pos (starEach (e :: es) X.env)) (backToKw pos (keywordEach [] X.env))) := by rfl) :
    PE X (.Call (.Attribute o m apos) (e :: es) [] pos) (tMeth C m sp [] E0 ta t) := by
  obtain ⟨f, F, hm⟩ := c.ex
  refine ⟨fun pins s σ H Q I h => ?_⟩
  refine PySem.W.methodCall_KW (pl := pl) (thn (ho.run pins s σ H _ I h) fun u s1 ⟨x, H1, I1, rx, a, dx, fs, ex, ea, l, q⟩ => ?_) ht
  subst ex
  obtain rfl : u = Value.ref a := rx
  refine getmeth_ok I1 ea cls hm l ?_
  refine PySem.W.callWith_K (first := [.ref a]) (h₀ := X.base) I.ok.mod.kin hm.kp (thn (ha.run pos pins s1 σ H1 _ I1 q) fun us s2 ⟨vs, H2, I2, r, q2⟩ => ⟨I2.kIn, ?_⟩) hst hpl
  have q3 := q2
  dsimp only at q3
  rw [List.append_nil] at q3
  exact wpAny_call (run_fnR (us := .ref a :: us) (vs := .ref a :: vs) F room pass0 I2 (.cons rfl r) q3)
theorem pe_methR0 {pl : Sem Bool} (c : MetR X.prog X.w X.K X.mg X.base C m k sp) (cls : Cls X.K C) (room : Room k X.A) (ho : PE X o ta)
    (ht : eval (.Call (.Attribute o m apos) [] [] pos) X.env = (do
      let ov ← eval o X.env
      standAt apos.atName
      let (f, first) ← holding [ov] (getMethod ov m pl)
      callWith pos f first (backTo pos (starEach [] X.env)) (backToKw pos (keywordEach [] X.env))) := by rfl) :
    PE X (.Call (.Attribute o m apos) [] [] pos) (tMeth C m sp [] E0 ta tNil) := by
  obtain ⟨f, F, hm⟩ := c.ex
  refine ⟨fun pins s σ H Q I h => ?_⟩
  refine PySem.W.methodCall_KW (pl := pl) (thn (ho.run pins s σ H _ I h) fun u s1 ⟨x, H1, I1, rx, a, dx, fs, ex, ea, l, q⟩ => ?_) ht
  subst ex
  obtain rfl : u = Value.ref a := rx
  refine getmeth_ok I1 ea cls hm l ?_
  exact PySem.W.callWith_K0 (first := [.ref a]) I1.kIn hm.kp (wpAny_call (run_fnR (us := [.ref a]) (vs := [.ref a]) F room pass0 I1 (.cons rfl .nil) q))
theorem pe_cmethR {pl : Sem Bool} (c : CmtR X.prog X.w X.K X.mg X.base C m k sp) (room : Room k X.A) (ho : PE X o ta) (ha : PA X (e :: es) t)
    (hst : starEach (e :: es) X.env = (false, eval e X.env) :: starEach es X.env := by rfl) (hpl : (backTo pos (starEach es X.env)).any (·.1) = false := by rfl)
    (ht : eval (.Call (.Attribute o m apos) (e :: es) [] pos) X.env = (do
      let ov ← eval o X.env
      standAt apos.atName
      let (f, first) ← holding [ov] (getMethod ov m pl)
      callWith pos f first (backTo pos (starEach (e :: es) X.env)) (backToKw pos (keywordEach [] X.env))) := by rfl) :
    PE X (.Call (.Attribute o m apos) (e :: es) [] pos) (ClX.tCMeth C sp E0 ta t) := by
  obtain ⟨f, mc, p, F, hr, hm⟩ := c.ex
  exact ClX.pe_cmeth ho hr hm F room pass0 ha hst hpl ht
end
/-- a def with one parameter and a star parameter -/
theorem _root_.L2.Fun.okStar {P : Program} {w : World} {K : PySem.W.Frag} {mg : Str → Option Value} {base : Heap} {x qual p1 pv : Str} {st : Stmt} {f : Addr} {fd : FuncData} {N : List Str} {k : Nat} {sp : Sp} (F : Fun K x qual st f fd) (S : FnScope N [p1, pv] (defScope st))
    (h0 : ∀ (kV doc pm cv ct : Value) (an : Option Addr) (a : Value), bindArgs (PySem.W.fnOf x qual (defArgs st) (defBody st) (defScope st) .none kV doc pm an cv ct) ⟨[a], []⟩ = (newTuple [] >>= fun t => pure [(p1, a), (pv, t)]))
    (h1 : ∀ (kV doc pm cv ct : Value) (an : Option Addr) (a r : Value) (rs : List Value), bindArgs (PySem.W.fnOf x qual (defArgs st) (defBody st) (defScope st) .none kV doc pm an cv ct) ⟨a :: r :: rs, []⟩ = (newTuple (r :: rs) >>= fun t => pure [(p1, a), (pv, t)]))
    (body : ∀ (cdv : Value) (A : Around) (outer : List Env) (s : Shared) (H : Hp) (vs : List V) (Q : VK) (E : XK), Room k (A.deeper (envOfC qual (defScope st) s.heap.objs.size f cdv)) → sp vs H Q E →
      ∃ t, PSs (cxOf CX0 P w K mg base N qual (defScope st) f cdv A outer s H E).nox (defBody st) t ∧ t { nx := fun _ H' => Q .non H', rt := Q } (start N vs) H) : FnR P w K mg base CX0 (k + 1) f (starSp 1 sp) := by
  obtain ⟨oc, od, kV, doc, pm, an, cv, ct, osl, rfl, lk, isCode⟩ := F.ex
  refine StX.fn_star (ps := [p1]) lk isCode S StX.cxUp_none (StX.bind_star1 (B := fun us => bindArgs (PySem.W.fnOf x qual (defArgs st) (defBody st) (defScope st) .none kV doc pm an cv ct) ⟨us, []⟩) (h0 kV doc pm cv ct an) (h1 kV doc pm cv ct an)) fun A outer s H vs Q E room h => ?_
  obtain ⟨t, runs, ends⟩ := body cv A outer s H vs Q E room h
  exact ⟨t, runs.nox, ends⟩


end My
namespace My
open PySem PySem.Spec PyProof.Rows L2 TL
def topS (i : Nat) : Stmt := PySem.Challenge.pw_fromparts_k13_whole_libraries_changed_st.main.body.getD i (.Pass ⟨0, 0, 0, 0⟩)
abbrev s__wall : Stmt := topS 0
theorem sc__wall : FnScope ["k"] ["k"] (defScope s__wall) := ⟨rfl, rfl, rfl, by decide +kernel, rfl, by decide +kernel, by decide +kernel⟩
abbrev s_is_integer : Stmt := topS 3
theorem sc_is_integer : FnScope ["value"] ["value"] (defScope s_is_integer) := ⟨rfl, rfl, rfl, by decide +kernel, rfl, by decide +kernel, by decide +kernel⟩
abbrev s_is_word : Stmt := topS 4
theorem sc_is_word : FnScope ["value", "letter"] ["value"] (defScope s_is_word) := ⟨rfl, rfl, rfl, by decide +kernel, rfl, by decide +kernel, by decide +kernel⟩
abbrev s__kept : Stmt := topS 6
theorem sc__kept : FnScope ["value", "one", "name"] ["value"] (defScope s__kept) := ⟨rfl, rfl, rfl, by decide +kernel, rfl, by decide +kernel, by decide +kernel⟩
abbrev s_ParseError___init__ : Stmt := inClass (topS 12) 0
theorem sc_ParseError___init__ : FnScope ["self", "line"] ["self", "line"] (defScope s_ParseError___init__) := ⟨rfl, rfl, rfl, by decide +kernel, rfl, by decide +kernel, by decide +kernel⟩
abbrev s_UnknownWord___init__ : Stmt := inClass (topS 13) 0
theorem sc_UnknownWord___init__ : FnScope ["self", "asked"] ["self", "asked"] (defScope s_UnknownWord___init__) := ⟨rfl, rfl, rfl, by decide +kernel, rfl, by decide +kernel, by decide +kernel⟩
abbrev s_InvalidNumber___init__ : Stmt := inClass (topS 14) 0
theorem sc_InvalidNumber___init__ : FnScope ["self", "number"] ["self", "number"] (defScope s_InvalidNumber___init__) := ⟨rfl, rfl, rfl, by decide +kernel, rfl, by decide +kernel, by decide +kernel⟩
abbrev s_Type___init__ : Stmt := inClass (topS 19) 0
theorem sc_Type___init__ : FnScope ["self", "inputs", "atom", "places", "order", "one", "word"] ["self", "inputs", "atom"] (defScope s_Type___init__) := ⟨rfl, rfl, rfl, by decide +kernel, rfl, by decide +kernel, by decide +kernel⟩
abbrev s_Type_read : Stmt := inClass (topS 19) 1
theorem sc_Type_read : FnScope ["cls", "text", "found"] ["cls", "text"] (defScope s_Type_read) := ⟨rfl, rfl, rfl, by decide +kernel, rfl, by decide +kernel, by decide +kernel⟩
abbrev s_Type_plain : Stmt := inClass (topS 19) 2
theorem sc_Type_plain : FnScope ["cls", "atom"] ["cls", "atom"] (defScope s_Type_plain) := ⟨rfl, rfl, rfl, by decide +kernel, rfl, by decide +kernel, by decide +kernel⟩
abbrev s_Type_inputs : Stmt := inClass (topS 19) 3
theorem sc_Type_inputs : FnScope ["self"] ["self"] (defScope s_Type_inputs) := ⟨rfl, rfl, rfl, by decide +kernel, rfl, by decide +kernel, by decide +kernel⟩
abbrev s_Type_atom : Stmt := inClass (topS 19) 4
theorem sc_Type_atom : FnScope ["self"] ["self"] (defScope s_Type_atom) := ⟨rfl, rfl, rfl, by decide +kernel, rfl, by decide +kernel, by decide +kernel⟩
abbrev s_Type_text : Stmt := inClass (topS 19) 5
theorem sc_Type_text : FnScope ["self"] ["self"] (defScope s_Type_text) := ⟨rfl, rfl, rfl, by decide +kernel, rfl, by decide +kernel, by decide +kernel⟩
abbrev s_Type_order : Stmt := inClass (topS 19) 6
theorem sc_Type_order : FnScope ["self"] ["self"] (defScope s_Type_order) := ⟨rfl, rfl, rfl, by decide +kernel, rfl, by decide +kernel, by decide +kernel⟩
abbrev s_Type_atoms : Stmt := inClass (topS 19) 7
theorem sc_Type_atoms : FnScope ["self"] ["self"] (defScope s_Type_atoms) := ⟨rfl, rfl, rfl, by decide +kernel, rfl, by decide +kernel, by decide +kernel⟩
abbrev s_Type_parts : Stmt := inClass (topS 19) 8
theorem sc_Type_parts : FnScope ["self", "inner", "by_text", "one", "part", "text"] ["self"] (defScope s_Type_parts) := ⟨rfl, rfl, rfl, by decide +kernel, rfl, by decide +kernel, by decide +kernel⟩
abbrev s_Type_positive : Stmt := inClass (topS 19) 9
theorem sc_Type_positive : FnScope ["self"] ["self"] (defScope s_Type_positive) := ⟨rfl, rfl, rfl, by decide +kernel, rfl, by decide +kernel, by decide +kernel⟩
abbrev s_Type_negative : Stmt := inClass (topS 19) 10
theorem sc_Type_negative : FnScope ["self"] ["self"] (defScope s_Type_negative) := ⟨rfl, rfl, rfl, by decide +kernel, rfl, by decide +kernel, by decide +kernel⟩
abbrev s_Type___rshift__ : Stmt := inClass (topS 19) 11
theorem sc_Type___rshift__ : FnScope ["self", "other"] ["self", "other"] (defScope s_Type___rshift__) := ⟨rfl, rfl, rfl, by decide +kernel, rfl, by decide +kernel, by decide +kernel⟩
abbrev s_Type___rrshift__ : Stmt := inClass (topS 19) 12
theorem sc_Type___rrshift__ : FnScope ["self", "other"] ["self", "other"] (defScope s_Type___rrshift__) := ⟨rfl, rfl, rfl, by decide +kernel, rfl, by decide +kernel, by decide +kernel⟩
abbrev s_Type___mod__ : Stmt := inClass (topS 19) 13
theorem sc_Type___mod__ : FnScope ["self", "other"] ["self", "other"] (defScope s_Type___mod__) := ⟨rfl, rfl, rfl, by decide +kernel, rfl, by decide +kernel, by decide +kernel⟩
abbrev s_Type___rmod__ : Stmt := inClass (topS 19) 14
theorem sc_Type___rmod__ : FnScope ["self", "other"] ["self", "other"] (defScope s_Type___rmod__) := ⟨rfl, rfl, rfl, by decide +kernel, rfl, by decide +kernel, by decide +kernel⟩
abbrev s_Type_renamed : Stmt := inClass (topS 19) 15
theorem sc_Type_renamed : FnScope ["self", "names", "inputs", "one", "word"] ["self", "names"] (defScope s_Type_renamed) := ⟨rfl, rfl, rfl, by decide +kernel, rfl, by decide +kernel, by decide +kernel⟩
abbrev s_Type_put : Stmt := inClass (topS 19) 16
theorem sc_Type_put : FnScope ["self", "atom", "other"] ["self", "atom", "other"] (defScope s_Type_put) := ⟨rfl, rfl, rfl, by decide +kernel, rfl, by decide +kernel, by decide +kernel⟩
abbrev s_Type___len__ : Stmt := inClass (topS 19) 17
theorem sc_Type___len__ : FnScope ["self"] ["self"] (defScope s_Type___len__) := ⟨rfl, rfl, rfl, by decide +kernel, rfl, by decide +kernel, by decide +kernel⟩
abbrev s_Type___getitem__ : Stmt := inClass (topS 19) 18
theorem sc_Type___getitem__ : FnScope ["self", "at"] ["self", "at"] (defScope s_Type___getitem__) := ⟨rfl, rfl, rfl, by decide +kernel, rfl, by decide +kernel, by decide +kernel⟩
abbrev s_Type___iter__ : Stmt := inClass (topS 19) 19
theorem sc_Type___iter__ : FnScope ["self"] ["self"] (defScope s_Type___iter__) := ⟨rfl, rfl, rfl, by decide +kernel, rfl, by decide +kernel, by decide +kernel⟩
abbrev s_Type___contains__ : Stmt := inClass (topS 19) 20
theorem sc_Type___contains__ : FnScope ["self", "x", "part"] ["self", "x"] (defScope s_Type___contains__) := ⟨rfl, rfl, rfl, by decide +kernel, rfl, by decide +kernel, by decide +kernel⟩
abbrev s_Type___eq__ : Stmt := inClass (topS 19) 21
theorem sc_Type___eq__ : FnScope ["self", "other"] ["self", "other"] (defScope s_Type___eq__) := ⟨rfl, rfl, rfl, by decide +kernel, rfl, by decide +kernel, by decide +kernel⟩
abbrev s_Type___str__ : Stmt := inClass (topS 19) 22
theorem sc_Type___str__ : FnScope ["self"] ["self"] (defScope s_Type___str__) := ⟨rfl, rfl, rfl, by decide +kernel, rfl, by decide +kernel, by decide +kernel⟩
abbrev s__is_tuple_of_types : Stmt := topS 20
theorem sc__is_tuple_of_types : FnScope ["value", "one"] ["value"] (defScope s__is_tuple_of_types) := ⟨rfl, rfl, rfl, by decide +kernel, rfl, by decide +kernel, by decide +kernel⟩
abbrev s__is_renaming : Stmt := topS 21
theorem sc__is_renaming : FnScope ["names", "atoms", "word"] ["names", "atoms"] (defScope s__is_renaming) := ⟨rfl, rfl, rfl, by decide +kernel, rfl, by decide +kernel, by decide +kernel⟩
abbrev s__text_inside : Stmt := topS 22
theorem sc__text_inside : FnScope ["wanted"] ["wanted"] (defScope s__text_inside) := ⟨rfl, rfl, rfl, by decide +kernel, rfl, by decide +kernel, by decide +kernel⟩
abbrev s__read_freely : Stmt := topS 23
theorem sc__read_freely : FnScope ["text", "depth", "pieces", "inputs", "piece"] ["text", "depth"] (defScope s__read_freely) := ⟨rfl, rfl, rfl, by decide +kernel, rfl, by decide +kernel, by decide +kernel⟩
abbrev s__read_piece : Stmt := topS 24
theorem sc__read_piece : FnScope ["piece", "depth"] ["piece", "depth"] (defScope s__read_piece) := ⟨rfl, rfl, rfl, by decide +kernel, rfl, by decide +kernel, by decide +kernel⟩
abbrev s__pieces : Stmt := topS 25
theorem sc__pieces : FnScope ["text", "pieces", "begun", "depth", "piece"] ["text"] (defScope s__pieces) := ⟨rfl, rfl, rfl, by decide +kernel, rfl, by decide +kernel, by decide +kernel⟩
abbrev s_Library___init__ : Stmt := inClass (topS 29) 0
theorem sc_Library___init__ : FnScope ["self", "parts", "given", "name"] ["self", "parts"] (defScope s_Library___init__) := ⟨rfl, rfl, rfl, by decide +kernel, rfl, by decide +kernel, by decide +kernel⟩
abbrev s_Library_read : Stmt := inClass (topS 29) 1
theorem sc_Library_read : FnScope ["cls", "lines", "parts", "at", "line", "name", "wanted"] ["cls", "lines"] (defScope s_Library_read) := ⟨rfl, rfl, rfl, by decide +kernel, rfl, by decide +kernel, by decide +kernel⟩
abbrev s_Library_parts : Stmt := inClass (topS 29) 2
theorem sc_Library_parts : FnScope ["self", "name"] ["self"] (defScope s_Library_parts) := ⟨rfl, rfl, rfl, by decide +kernel, rfl, by decide +kernel, by decide +kernel⟩
abbrev s_Library_names : Stmt := inClass (topS 29) 3
theorem sc_Library_names : FnScope ["self"] ["self"] (defScope s_Library_names) := ⟨rfl, rfl, rfl, by decide +kernel, rfl, by decide +kernel, by decide +kernel⟩
abbrev s_Library_lines : Stmt := inClass (topS 29) 4
theorem sc_Library_lines : FnScope ["self"] ["self"] (defScope s_Library_lines) := ⟨rfl, rfl, rfl, by decide +kernel, rfl, by decide +kernel, by decide +kernel⟩
abbrev s_Library_atoms : Stmt := inClass (topS 29) 5
theorem sc_Library_atoms : FnScope ["self", "name", "word"] ["self"] (defScope s_Library_atoms) := ⟨rfl, rfl, rfl, by decide +kernel, rfl, by decide +kernel, by decide +kernel⟩
abbrev s_Library_scope : Stmt := inClass (topS 29) 6
theorem sc_Library_scope : FnScope ["self"] ["self"] (defScope s_Library_scope) := ⟨rfl, rfl, rfl, by decide +kernel, rfl, by decide +kernel, by decide +kernel⟩
abbrev s_Library_order : Stmt := inClass (topS 29) 7
theorem sc_Library_order : FnScope ["self", "name"] ["self"] (defScope s_Library_order) := ⟨rfl, rfl, rfl, by decide +kernel, rfl, by decide +kernel, by decide +kernel⟩
abbrev s_Library_with_part : Stmt := inClass (topS 29) 8
theorem sc_Library_with_part : FnScope ["self", "name", "wanted", "parts"] ["self", "name", "wanted"] (defScope s_Library_with_part) := ⟨rfl, rfl, rfl, by decide +kernel, rfl, by decide +kernel, by decide +kernel⟩
abbrev s_Library_without : Stmt := inClass (topS 29) 9
theorem sc_Library_without : FnScope ["self", "names", "name"] ["self", "names"] (defScope s_Library_without) := ⟨rfl, rfl, rfl, by decide +kernel, rfl, by decide +kernel, by decide +kernel⟩
abbrev s_Library_only : Stmt := inClass (topS 29) 10
theorem sc_Library_only : FnScope ["self", "names", "name"] ["self", "names"] (defScope s_Library_only) := ⟨rfl, rfl, rfl, by decide +kernel, rfl, by decide +kernel, by decide +kernel⟩
abbrev s_Library_renamed : Stmt := inClass (topS 29) 11
theorem sc_Library_renamed : FnScope ["self", "names", "name"] ["self", "names"] (defScope s_Library_renamed) := ⟨rfl, rfl, rfl, by decide +kernel, rfl, by decide +kernel, by decide +kernel⟩
abbrev s_Library_with_atoms : Stmt := inClass (topS 29) 12
theorem sc_Library_with_atoms : FnScope ["self", "names", "parts", "name", "wanted", "word"] ["self", "names"] (defScope s_Library_with_atoms) := ⟨rfl, rfl, rfl, by decide +kernel, rfl, by decide +kernel, by decide +kernel⟩
abbrev s_Library_heads : Stmt := inClass (topS 29) 13
theorem sc_Library_heads : FnScope ["self", "atom"] ["self", "atom"] (defScope s_Library_heads) := ⟨rfl, rfl, rfl, by decide +kernel, rfl, by decide +kernel, by decide +kernel⟩
abbrev s_Library_is_part_of : Stmt := inClass (topS 29) 14
theorem sc_Library_is_part_of : FnScope ["self", "other"] ["self", "other"] (defScope s_Library_is_part_of) := ⟨rfl, rfl, rfl, by decide +kernel, rfl, by decide +kernel, by decide +kernel⟩
abbrev s_Library__check_names : Stmt := inClass (topS 29) 15
theorem sc_Library__check_names : FnScope ["self", "names", "name"] ["self", "names"] (defScope s_Library__check_names) := ⟨rfl, rfl, rfl, by decide +kernel, rfl, by decide +kernel, by decide +kernel⟩
abbrev s_Library___or__ : Stmt := inClass (topS 29) 16
theorem sc_Library___or__ : FnScope ["self", "other", "added", "name"] ["self", "other"] (defScope s_Library___or__) := ⟨rfl, rfl, rfl, by decide +kernel, rfl, by decide +kernel, by decide +kernel⟩
abbrev s_Library___ror__ : Stmt := inClass (topS 29) 17
theorem sc_Library___ror__ : FnScope ["self", "other"] ["self", "other"] (defScope s_Library___ror__) := ⟨rfl, rfl, rfl, by decide +kernel, rfl, by decide +kernel, by decide +kernel⟩
abbrev s_Library___and__ : Stmt := inClass (topS 29) 18
theorem sc_Library___and__ : FnScope ["self", "other", "name"] ["self", "other"] (defScope s_Library___and__) := ⟨rfl, rfl, rfl, by decide +kernel, rfl, by decide +kernel, by decide +kernel⟩
abbrev s_Library___rand__ : Stmt := inClass (topS 29) 19
theorem sc_Library___rand__ : FnScope ["self", "other"] ["self", "other"] (defScope s_Library___rand__) := ⟨rfl, rfl, rfl, by decide +kernel, rfl, by decide +kernel, by decide +kernel⟩
abbrev s_Library___sub__ : Stmt := inClass (topS 29) 20
theorem sc_Library___sub__ : FnScope ["self", "other", "left", "name"] ["self", "other"] (defScope s_Library___sub__) := ⟨rfl, rfl, rfl, by decide +kernel, rfl, by decide +kernel, by decide +kernel⟩
abbrev s_Library___rsub__ : Stmt := inClass (topS 29) 21
theorem sc_Library___rsub__ : FnScope ["self", "other"] ["self", "other"] (defScope s_Library___rsub__) := ⟨rfl, rfl, rfl, by decide +kernel, rfl, by decide +kernel, by decide +kernel⟩
abbrev s_Library___getitem__ : Stmt := inClass (topS 29) 22
theorem sc_Library___getitem__ : FnScope ["self", "at"] ["self", "at"] (defScope s_Library___getitem__) := ⟨rfl, rfl, rfl, by decide +kernel, rfl, by decide +kernel, by decide +kernel⟩
abbrev s_Library___contains__ : Stmt := inClass (topS 29) 23
theorem sc_Library___contains__ : FnScope ["self", "x"] ["self", "x"] (defScope s_Library___contains__) := ⟨rfl, rfl, rfl, by decide +kernel, rfl, by decide +kernel, by decide +kernel⟩
abbrev s_Library___len__ : Stmt := inClass (topS 29) 24
theorem sc_Library___len__ : FnScope ["self"] ["self"] (defScope s_Library___len__) := ⟨rfl, rfl, rfl, by decide +kernel, rfl, by decide +kernel, by decide +kernel⟩
abbrev s_Library___iter__ : Stmt := inClass (topS 29) 25
theorem sc_Library___iter__ : FnScope ["self"] ["self"] (defScope s_Library___iter__) := ⟨rfl, rfl, rfl, by decide +kernel, rfl, by decide +kernel, by decide +kernel⟩
abbrev s_Library___eq__ : Stmt := inClass (topS 29) 26
theorem sc_Library___eq__ : FnScope ["self", "other"] ["self", "other"] (defScope s_Library___eq__) := ⟨rfl, rfl, rfl, by decide +kernel, rfl, by decide +kernel, by decide +kernel⟩
abbrev s_Library___str__ : Stmt := inClass (topS 29) 27
theorem sc_Library___str__ : FnScope ["self"] ["self"] (defScope s_Library___str__) := ⟨rfl, rfl, rfl, by decide +kernel, rfl, by decide +kernel, by decide +kernel⟩
abbrev s__are_parts : Stmt := topS 30
theorem sc__are_parts : FnScope ["parts", "name"] ["parts"] (defScope s__are_parts) := ⟨rfl, rfl, rfl, by decide +kernel, rfl, by decide +kernel, by decide +kernel⟩
abbrev s__are_words : Stmt := topS 31
theorem sc__are_words : FnScope ["names", "asked", "word"] ["names", "asked"] (defScope s__are_words) := ⟨rfl, rfl, rfl, by decide +kernel, rfl, by decide +kernel, by decide +kernel⟩
abbrev s__has_part : Stmt := topS 32
theorem sc__has_part : FnScope ["library", "name", "wanted"] ["library", "name", "wanted"] (defScope s__has_part) := ⟨rfl, rfl, rfl, by decide +kernel, rfl, by decide +kernel, by decide +kernel⟩
abbrev s__read_line : Stmt := topS 33
theorem sc__read_line : FnScope ["line", "at", "name", "_", "text"] ["line", "at"] (defScope s__read_line) := ⟨rfl, rfl, rfl, by decide +kernel, rfl, by decide +kernel, by decide +kernel⟩
abbrev s__law_dice : Stmt := topS 35
theorem sc__law_dice : FnScope ["_law_script", "_law_spot", "_law_cell", "_law_great", "_law_blend"] ["_law_script", "_law_spot"] (defScope s__law_dice) := ⟨rfl, rfl, rfl, by decide +kernel, rfl, by decide +kernel, by decide +kernel⟩
abbrev s__law_roll : Stmt := topS 36
theorem sc__law_roll : FnScope ["_law_dice_here", "_law_total", "_law_found", "_law_one", "_law_two"] ["_law_dice_here", "_law_total"] (defScope s__law_roll) := ⟨rfl, rfl, rfl, by decide +kernel, rfl, by decide +kernel, by decide +kernel⟩
abbrev s__law_pick : Stmt := topS 37
theorem sc__law_pick : FnScope ["_law_dice_here", "_law_items"] ["_law_dice_here", "_law_items"] (defScope s__law_pick) := ⟨rfl, rfl, rfl, by decide +kernel, rfl, by decide +kernel, by decide +kernel⟩
abbrev s__law_some : Stmt := topS 38
theorem sc__law_some : FnScope ["_law_dice_here", "_law_items", "_law_size", "_law_left", "_law_turn"] ["_law_dice_here", "_law_items", "_law_size"] (defScope s__law_some) := ⟨rfl, rfl, rfl, by decide +kernel, rfl, by decide +kernel, by decide +kernel⟩
abbrev s__law_text : Stmt := topS 39
theorem sc__law_text : FnScope ["_law_kind_here", "_law_rows", "_law_one"] ["_law_kind_here"] (defScope s__law_text) := ⟨rfl, rfl, rfl, by decide +kernel, rfl, by decide +kernel, by decide +kernel⟩
abbrev s__law_atoms_of : Stmt := topS 40
theorem sc__law_atoms_of : FnScope ["_law_kind_here", "_law_found", "_law_one"] ["_law_kind_here"] (defScope s__law_atoms_of) := ⟨rfl, rfl, rfl, by decide +kernel, rfl, by decide +kernel, by decide +kernel⟩
abbrev s__law_kind : Stmt := topS 41
theorem sc__law_kind : FnScope ["_law_dice_here", "_law_atoms", "_law_order", "_law_most", "_law_inputs", "_law_left", "_law_turn", "_law_size", "_law_one"] ["_law_dice_here", "_law_atoms", "_law_order", "_law_most"] (defScope s__law_kind) := ⟨rfl, rfl, rfl, by decide +kernel, rfl, by decide +kernel, by decide +kernel⟩
abbrev s__law_made_kind : Stmt := topS 42
theorem sc__law_made_kind : FnScope ["_law_kind_here", "_law_one"] ["_law_kind_here"] (defScope s__law_made_kind) := ⟨rfl, rfl, rfl, by decide +kernel, rfl, by decide +kernel, by decide +kernel⟩
abbrev s__law_atoms_put : Stmt := topS 43
theorem sc__law_atoms_put : FnScope ["_law_kind_here", "_law_names", "_law_one"] ["_law_kind_here", "_law_names"] (defScope s__law_atoms_put) := ⟨rfl, rfl, rfl, by decide +kernel, rfl, by decide +kernel, by decide +kernel⟩
abbrev s__law_library : Stmt := topS 44
theorem sc__law_library : FnScope ["_law_dice_here", "_law_way", "_law_found", "_law_atoms", "_law_name"] ["_law_dice_here"] (defScope s__law_library) := ⟨rfl, rfl, rfl, by decide +kernel, rfl, by decide +kernel, by decide +kernel⟩
abbrev s__law_known_library : Stmt := topS 45
theorem sc__law_known_library : FnScope ["_law_dice_here", "_law_a", "_law_b", "_law_c", "_law_n", "_law_some_here", "_law_found"] ["_law_dice_here"] (defScope s__law_known_library) := ⟨rfl, rfl, rfl, by decide +kernel, rfl, by decide +kernel, by decide +kernel⟩
abbrev s__law_lines : Stmt := topS 46
theorem sc__law_lines : FnScope ["_law_library_here", "_law_name"] ["_law_library_here"] (defScope s__law_lines) := ⟨rfl, rfl, rfl, by decide +kernel, rfl, by decide +kernel, by decide +kernel⟩
abbrev s__law_made : Stmt := topS 47
theorem sc__law_made : FnScope ["_law_library_here", "_law_name"] ["_law_library_here"] (defScope s__law_made) := ⟨rfl, rfl, rfl, by decide +kernel, rfl, by decide +kernel, by decide +kernel⟩
abbrev s__law_library_atoms : Stmt := topS 48
theorem sc__law_library_atoms : FnScope ["_law_library_here", "_law_found", "_law_name"] ["_law_library_here"] (defScope s__law_library_atoms) := ⟨rfl, rfl, rfl, by decide +kernel, rfl, by decide +kernel, by decide +kernel⟩
abbrev s__law_got : Stmt := topS 49
theorem sc__law_got : FnScope ["_law_call"] ["_law_call"] (defScope s__law_got) := ⟨rfl, rfl, rfl, by decide +kernel, rfl, by decide +kernel, by decide +kernel⟩
abbrev s__law_names_step : Stmt := topS 50
theorem sc__law_names_step : FnScope ["_law_dice_here", "_law_library_here", "_law_made_here", "_law_atoms", "_law_names", "_law_after", "_law_words", "_law_back", "_law_told", "_law_atom", "_law_name"] ["_law_dice_here", "_law_library_here", "_law_made_here"] (defScope s__law_names_step) := ⟨rfl, rfl, rfl, by decide +kernel, rfl, by decide +kernel, by decide +kernel⟩
abbrev s__law_step : Stmt := topS 51
theorem sc__law_step : FnScope ["_law_dice_here", "_law_library_here", "_law_made_here", "_law_way", "_law_some_here", "_law_name", "_law_kind_here", "_law_after"] ["_law_dice_here", "_law_library_here", "_law_made_here"] (defScope s__law_step) := ⟨rfl, rfl, rfl, by decide +kernel, rfl, by decide +kernel, by decide +kernel⟩
abbrev s__law_right : Stmt := topS 52
theorem sc__law_right : FnScope ["_law_dice_here", "_law_library_here", "_law_turn", "_law_made_here", "_law_told", "_law_after", "_law_due"] ["_law_dice_here"] (defScope s__law_right) := ⟨rfl, rfl, rfl, by decide +kernel, rfl, by decide +kernel, by decide +kernel⟩
abbrev s_law : Stmt := topS 53
theorem sc_law : FnScope ["_law_script", "_law_spot", "_law_dice_here", "_law_turn", "_law_pipe", "_law_told"] ["_law_script"] (defScope s_law) := ⟨rfl, rfl, rfl, by decide +kernel, rfl, by decide +kernel, by decide +kernel⟩
structure XType (K : PySem.W.Frag) (C : Addr) : Prop where
  n_inputs : PySem.W.findIn K (.ref C) "_inputs" = some none
  n_atom : PySem.W.findIn K (.ref C) "_atom" = some none
  n_places : PySem.W.findIn K (.ref C) "_places" = some none
  n_order : PySem.W.findIn K (.ref C) "_order" = some none
  n_text : PySem.W.findIn K (.ref C) "_text" = some none
  first : PySem.W.selfFirst K C = true
  nfirst : PySem.W.notFirst K C (.ref C) = true
  ni_str : PySem.W.kitOne K (.ref C) (.type "str") = some false
  odd_NoneType : PySem.W.kitOne K (.type "NoneType") (.ref C) = some false
  nf_NoneType : PySem.W.notFirst K C (.type "NoneType") = true
  odd_int : PySem.W.kitOne K (.type "int") (.ref C) = some false
  nf_int : PySem.W.notFirst K C (.type "int") = true
  odd_str : PySem.W.kitOne K (.type "str") (.ref C) = some false
  nf_str : PySem.W.notFirst K C (.type "str") = true
  odd_tuple : PySem.W.kitOne K (.type "tuple") (.ref C) = some false
  nf_tuple : PySem.W.notFirst K C (.type "tuple") = true
  odd_list : PySem.W.kitOne K (.type "list") (.ref C) = some false
  nf_list : PySem.W.notFirst K C (.type "list") = true
  odd_dict : PySem.W.kitOne K (.type "dict") (.ref C) = some false
  nf_dict : PySem.W.notFirst K C (.type "dict") = true
  ne : PySem.W.findIn K (.ref C) "__ne__" = some (some (.builtin "object.__ne__"))
  under : PySem.W.subIn K (.ref C) (.type "object") = some true
  cl1 : PySem.W.findIn K (.ref C) "__class__" = some (some (.builtin "object.__class__"))
  cl2 : PySem.W.specialIn K (.builtin "object.__class__") "__get__" = some (some (.builtin "getset_descriptor.__get__"))
  cl3 : PySem.W.takesIn K (.builtin "object.__class__") = some true
  cl4 : PySem.W.mroIn K C (.type "object") = some true
structure XLibrary (K : PySem.W.Frag) (C : Addr) : Prop where
  n_parts : PySem.W.findIn K (.ref C) "_parts" = some none
  n_names : PySem.W.findIn K (.ref C) "_names" = some none
  n_lines : PySem.W.findIn K (.ref C) "_lines" = some none
  first : PySem.W.selfFirst K C = true
  nfirst : PySem.W.notFirst K C (.ref C) = true
  ni_str : PySem.W.kitOne K (.ref C) (.type "str") = some false
  odd_NoneType : PySem.W.kitOne K (.type "NoneType") (.ref C) = some false
  nf_NoneType : PySem.W.notFirst K C (.type "NoneType") = true
  odd_int : PySem.W.kitOne K (.type "int") (.ref C) = some false
  nf_int : PySem.W.notFirst K C (.type "int") = true
  odd_str : PySem.W.kitOne K (.type "str") (.ref C) = some false
  nf_str : PySem.W.notFirst K C (.type "str") = true
  odd_tuple : PySem.W.kitOne K (.type "tuple") (.ref C) = some false
  nf_tuple : PySem.W.notFirst K C (.type "tuple") = true
  odd_list : PySem.W.kitOne K (.type "list") (.ref C) = some false
  nf_list : PySem.W.notFirst K C (.type "list") = true
  odd_dict : PySem.W.kitOne K (.type "dict") (.ref C) = some false
  nf_dict : PySem.W.notFirst K C (.type "dict") = true
  fn_getitem : ∀ f, Meth K C "__getitem__" f → PySem.W.fnIn K f = true
  ne : PySem.W.findIn K (.ref C) "__ne__" = some (some (.builtin "object.__ne__"))
  under : PySem.W.subIn K (.ref C) (.type "object") = some true
  cl1 : PySem.W.findIn K (.ref C) "__class__" = some (some (.builtin "object.__class__"))
  cl2 : PySem.W.specialIn K (.builtin "object.__class__") "__get__" = some (some (.builtin "getset_descriptor.__get__"))
  cl3 : PySem.W.takesIn K (.builtin "object.__class__") = some true
  cl4 : PySem.W.mroIn K C (.type "object") = some true
structure Txt (K : PySem.W.Frag) (mg : Str → Option Value) (C_Type : Addr) (C_Library : Addr) : Prop where
  c_Type : mg "Type" = some (.ref C_Type)
  k_Type : Cls K C_Type
  x_Type : XType K C_Type
  c_Library : mg "Library" = some (.ref C_Library)
  k_Library : Cls K C_Library
  x_Library : XLibrary K C_Library
  b_KeyError : mg "KeyError" = none
  b_RuntimeError : mg "RuntimeError" = none
  b_ValueError : mg "ValueError" = none
  b_abs : mg "abs" = none
  b_all : mg "all" = none
  b_any : mg "any" = none
  b_bool : mg "bool" = none
  b_classmethod : mg "classmethod" = none
  b_dict : mg "dict" = none
  b_enumerate : mg "enumerate" = none
  b_int : mg "int" = none
  b_isinstance : mg "isinstance" = none
  b_iter : mg "iter" = none
  b_len : mg "len" = none
  b_list : mg "list" = none
  b_max : mg "max" = none
  b_min : mg "min" = none
  b_property : mg "property" = none
  b_range : mg "range" = none
  b_set : mg "set" = none
  b_sorted : mg "sorted" = none
  b_str : mg "str" = none
  b_tuple : mg "tuple" = none
  b_zip : mg "zip" = none
  g_MAX_LETTERS : ∃ u, mg "MAX_LETTERS" = some u ∧ RelV (.int 8) u
  g_MAX_PLACES : ∃ u, mg "MAX_PLACES" = some u ∧ RelV (.int 15) u
  g_MAX_ORDER : ∃ u, mg "MAX_ORDER" = some u ∧ RelV (.int 4) u
  g__ARROW : ∃ u, mg "_ARROW" = some u ∧ RelV (.str " -> ") u
  g_MAX_PARTS : ∃ u, mg "MAX_PARTS" = some u ∧ RelV (.int 8) u
  g__COLON : ∃ u, mg "_COLON" = some u ∧ RelV (.str " : ") u
set_option pp.maxSteps 400
set_option pp.deepTerms false
def isLow (c : Nat) : Bool := decide (97 ≤ c) && decide (c ≤ 122)
def isW : V → Bool
  | .str x => (decide (1 ≤ x.length) && decide (x.length ≤ 8)) && x.cps.toList.all isLow
  | _ => false
/-- a value that the law makes -/
def ValW (K : PySem.W.Frag) (H : Hp) (v : V) : Prop := (∃ x : Str, v = .str x ∧ x.length ≤ 1000 ∧ ∀ c ∈ x.cps.toList, c < 128) ∨
  (∃ t, TyX K H v t ∧ PySem.W.kitOne K t (.type "str") = some false ∧ isW v = false)
def sp_is_word (K : PySem.W.Frag) : Sp := fun vs H Q _ => ∃ v, vs = [v] ∧ ValW K H v ∧ ∀ H', Same H H' → Q (.bl (isW v)) H'
theorem isW_str (x : Str) : isW (.str x) = ((decide (1 ≤ x.length) && decide (x.length ≤ 8)) && x.cps.toList.all isLow) := rfl
section
variable {P : Program} {w : World} {K : PySem.W.Frag} {mg : Str → Option Value} {base : Heap}
theorem ok_is_word (T : Txt K mg C_Type C_Library) {f : Addr} {fd : FuncData} (F : Fun K "is_word" "is_word" s_is_word f fd) : FnOk P w K mg base CX0 1 f fd ["value"] (sp_is_word K) := by
  have nd := sc_is_word.nd
  refine F.ok sc_is_word (fun vs H Q E h => ?_) (fun cdv A outer s H vs Q E hr h => ?_)
  · obtain ⟨v, rfl, _⟩ := h
    rfl
  · obtain ⟨v, rfl, hv, q⟩ := h
    refine ⟨_, (pss_cons (ps_if (PW.pt (pw_or (pt_not (pt_val (pe_callB call_isi (by rfl) T.b_isinstance (by decide +kernel) (pa_cons (pv 0) (pa_cons (pe_bltn (v := .ty "str") (u := .type "str") (by rfl) T.b_str (by decide +kernel) rfl) pa_nil))))) (pw_or1 (pt_not (pt_chain op_le op_le pe_int (pe_callB call_len (by rfl) T.b_len (by decide +kernel) (pa_cons (pv 0) pa_nil)) (pe_globE rfl T.g_MAX_LETTERS)))))) (pss_one (ps_ret pe_bl)) pss_nil)
      (pss_one (ps_ret (pe_callB (cr_all rfl) (by rfl) T.b_all (by decide +kernel) (pa_cons (pe_lcD (own := [("letter", 1)]) (by rfl) nd (pi_str (pv 0)) (blkOk_by (own := [("letter", 1)]) (N := ["value", "letter"]) (sc := (defScope s_is_word)) (by decide +kernel)) (fun _ _ _ _ _ => pg_name (i := 1) nd rfl (Or.inl rfl)) (fun _ _ _ _ _ => pts_nil) (fun _ _ _ _ _ => (pe_chain op_le_str op_le_str pe_str (pv 1) pe_str))) pa_nil))))), ?_⟩
    rcases hv with ⟨x, rfl, hx, ha⟩ | ⟨t, ht, hk, hw⟩
    · have hx1 : x.length ≤ sizeLine := lt_line (by omega)
      have hxl : x.cps.toList.length = x.length := (len_tl x).symm
      refine ⟨.str x, rfl, .str x, .ty "str", .type "str", .type "str", true, rfl, .ty _, .base (.str x), kit_ty (by decide +kernel), true, rfl, ?_⟩
      refine iteF ?_
      refine ⟨.str x, rfl, .str x, x.length, rfl, ⟨hx1, rfl⟩, 1, (x.length : Int), rfl, rfl, _, rfl, ?_⟩
      refine ite2 (fun h1 => ?_) (fun h1 => ?_)
      · have h1' : 1 ≤ x.length := by have := of_decide_eq_true h1; omega
        refine ⟨(x.length : Int), 8, rfl, rfl, _, rfl, ?_⟩
        refine ite2 (fun h2 => ?_) (fun h2 => ?_)
        · have h2' : ¬ x.length ≤ 8 := fun z => by
            rw [decide_eq_true (show (x.length : Int) ≤ 8 by omega)] at h2
            cases h2
          have e : isW (.str x) = false := by rw [isW_str, decide_eq_false h2', Bool.and_false, Bool.false_and]
          have z := q H (Same.refl H)
          rw [e] at z
          exact z
        · have h2' : x.length ≤ 8 := by
            by_cases z : (x.length : Int) ≤ 8
            · omega
            · rw [decide_eq_false z] at h2
              exact absurd rfl h2
          refine ⟨.str x, rfl, x, rfl, fun D hD => lc_txt (fun i H' => H' D = some (.lst (((x.cps.toList.take i).map isLow).map V.bl)) ∧ Same H H') ?_ (fun i c H1 hc hP => ?_) (fun H1 hP => ?_)⟩
          · exact ⟨upd_same, (Same.refl H).mut hD⟩
          · obtain ⟨hD1, s1⟩ := hP
            refine ⟨rfl, tyes ?_⟩
            have fin : ∀ b, b = isLow c → ∃ acc, H1 D = some (.lst acc) ∧ acc.length < sizeLine ∧ ((upd H1 D (.lst (acc ++ [.bl b]))) D = some (.lst (((x.cps.toList.take (i + 1)).map isLow).map V.bl)) ∧ Same H (upd H1 D (.lst (acc ++ [.bl b])))) := by
              intro b e
              refine ⟨_, hD1, lt_line' ?_, ?_, s1.mut hD⟩
              · have := lt_of_get hc
                rw [List.length_map, List.length_map, List.length_take]
                omega
              · rw [upd_same, e, take_next hc, List.map_append, List.map_append]
                rfl
            refine ⟨.str ⟨#[c]⟩, rfl, "a", ⟨#[c]⟩, rfl, rfl, _, rfl, ?_⟩
            have ea : (decide ((⟨#[c]⟩ : Str).cps.toList < ("a" : Str).cps.toList)) = decide (c < 97) := lex1 c 97
            have ez : (decide (("z" : Str).cps.toList < (⟨#[c]⟩ : Str).cps.toList)) = decide (122 < c) := lex1 122 c
            refine ite2 (fun h3 => ?_) (fun h3 => ?_)
            · refine ⟨⟨#[c]⟩, "z", rfl, rfl, fin _ ?_⟩
              rw [ea] at h3
              rw [ez]
              unfold isLow
              by_cases z : c < 97
              · rw [decide_eq_true z] at h3
                cases h3
              · rw [decide_eq_true (show 97 ≤ c by omega), Bool.true_and]
                by_cases z2 : 122 < c
                · rw [decide_eq_true z2, decide_eq_false (by omega)]
                  rfl
                · rw [decide_eq_false z2, decide_eq_true (by omega)]
                  rfl
            · refine fin _ ?_
              rw [ea] at h3
              unfold isLow
              by_cases z : c < 97
              · rw [decide_eq_false (show ¬ 97 ≤ c by omega), Bool.false_and]
              · rw [decide_eq_false z] at h3
                exact absurd rfl h3
          · obtain ⟨hD1, s1⟩ := hP
            rw [List.take_length] at hD1
            refine ⟨D, _, rfl, SqL.of hD1, ?_⟩
            have e : isW (.str x) = (x.cps.toList.map isLow).all id := by
              rw [isW_str, decide_eq_true h1', decide_eq_true h2', List.all_map]
              rfl
            have z := q H1 s1
            rw [e] at z
            exact z
      · have h1' : ¬ 1 ≤ x.length := fun z => h1 (decide_eq_true (by omega))
        refine ⟨false, rfl, iteT ?_⟩
        have e : isW (.str x) = false := by rw [isW_str, decide_eq_false h1', Bool.false_and, Bool.false_and]
        have z := q H (Same.refl H)
        rw [e] at z
        exact z
    · refine ⟨v, rfl, v, .ty "str", t, .type "str", false, rfl, .ty _, ht, hk, false, rfl, ?_⟩
      refine iteT ?_
      refine iteT ?_
      have z := q H (Same.refl H)
      rw [hw] at z
      exact z
end

/-! ### types, plainly -/
inductive Ty where
  | mk (ins : List Ty) (atom : Str) : Ty
namespace Ty
def ins : Ty → List Ty
  | .mk i _ => i
def atom : Ty → Str
  | .mk _ a => a
mutual
def places : Ty → List Str
  | .mk i a => placesL i ++ [a]
def placesL : List Ty → List Str
  | [] => []
  | t :: r => places t ++ placesL r
end
mutual
def order : Ty → Nat
  | .mk i _ => orderL i
def orderL : List Ty → Nat
  | [] => 0
  | t :: r => max (order t + 1) (orderL r)
end
mutual
def text : Ty → Str
  | .mk i a => Txt.join " -> " (insideL i ++ [a])
/-- the texts of the arguments as they stand in the text -/
def insideL : List Ty → List Str
  | [] => []
  | t :: r => (if t.ins.isEmpty then text t else ("(" : Str) ++ text t ++ (")" : Str)) :: insideL r
end
def inside (t : Ty) : Str := if t.ins.isEmpty then text t else ("(" : Str) ++ text t ++ (")" : Str)
theorem insideL_map : ∀ l : List Ty, insideL l = l.map inside
  | [] => by rw [insideL]; rfl
  | t :: r => by rw [insideL, insideL_map r]; rfl
theorem placesL_cons (t : Ty) (r : List Ty) : placesL (t :: r) = places t ++ placesL r := by rw [placesL]
theorem placesL_nil : placesL [] = [] := by rw [placesL]
theorem placesL_append : ∀ l m : List Ty, placesL (l ++ m) = placesL l ++ placesL m
  | [], m => by rw [placesL_nil]; rfl
  | t :: r, m => by rw [List.cons_append, placesL_cons, placesL_cons, placesL_append r m, List.append_assoc]
/-- every atom is a word -/
def words (t : Ty) : Prop := ∀ a ∈ t.places, isW (.str a) = true ∧ ∀ c ∈ a.cps.toList, c < 128
/-- small enough to be made -/
structure Fits (t : Ty) : Prop where
  words : t.words
  few : t.places.length ≤ 15
  low : t.order ≤ 4
end Ty

/-! ### how long texts are -/
theorem isW_len {a : Str} (h : isW (.str a) = true) : 1 ≤ a.length ∧ a.length ≤ 8 := by
  rw [isW_str] at h
  simp only [Bool.and_eq_true, decide_eq_true_eq] at h
  exact h.1
theorem join_len (sep : Str) (ys : List Str) : (Txt.join sep ys).length = (ys.map (·.length)).sum + (ys.length - 1) * sep.length := PySem.size_glued sep ys
theorem app_len (x y : Str) : (x ++ y).length = x.length + y.length := by
  rw [len_tl, tl_append, List.length_append, ← len_tl, ← len_tl]
namespace Ty
theorem places_pos (t : Ty) : 1 ≤ t.places.length := by
  cases t with
  | mk i a =>
    rw [places, List.length_append]
    exact Nat.le_add_left 1 _
theorem len_placesL : ∀ l : List Ty, l.length ≤ (placesL l).length
  | [] => Nat.zero_le _
  | t :: r => by
    rw [placesL_cons, List.length_append, List.length_cons]
    have := places_pos t
    have := len_placesL r
    omega
theorem inside_len (t : Ty) : t.inside.length ≤ t.text.length + 2 := by
  unfold inside
  by_cases h : t.ins.isEmpty = true
  · rw [if_pos h]
    omega
  · rw [if_neg h, app_len, app_len]
    have h1 : ("(" : Str).length = 1 := by decide +kernel
    have h2 : (")" : Str).length = 1 := by decide +kernel
    omega
mutual
theorem text_len : ∀ t : Ty, (∀ a ∈ t.places, a.length ≤ 8) → t.text.length + 6 ≤ 14 * t.places.length
  | .mk i a, h => by
    have ha : a.length ≤ 8 := h a (by rw [places]; exact List.mem_append_right _ (List.mem_singleton.mpr rfl))
    have hi := insideL_len i fun b hb => h b (by rw [places]; exact List.mem_append_left _ hb)
    have sep : (" -> " : Str).length = 4 := by decide +kernel
    have n : (insideL i).length = i.length := by rw [insideL_map, List.length_map]
    rw [text, places, join_len, List.map_append, List.sum_append, List.length_append, List.length_append, sep, n]
    show _ + [a.length].sum + (i.length + 1 - 1) * 4 + 6 ≤ 14 * (_ + 1)
    rw [show [a.length].sum = a.length from Nat.add_zero _]
    omega
theorem insideL_len : ∀ l : List Ty, (∀ a ∈ placesL l, a.length ≤ 8) → ((insideL l).map (·.length)).sum + 4 * l.length ≤ 14 * (placesL l).length
  | [], _ => by
    rw [insideL]
    exact Nat.zero_le _
  | t :: r, h => by
    have h1 := text_len t fun a ha => h a (by rw [placesL_cons]; exact List.mem_append_left _ ha)
    have h2 := insideL_len r fun a ha => h a (by rw [placesL_cons]; exact List.mem_append_right _ ha)
    have h3 := inside_len t
    rw [insideL_map, List.map_cons, ← insideL_map, List.map_cons, List.sum_cons, List.length_cons, placesL_cons, List.length_append]
    omega
end
theorem text_small {t : Ty} (w : t.words) (n : t.places.length ≤ 15) : t.text.length ≤ 300 := by
  have := text_len t fun a ha => (isW_len (w a ha).1).2
  omega
theorem orderL_max : ∀ (l : List Ty) (m : Int), (l.map (fun t => ((t.order : Nat) : Int) + 1) = [] → m = 0) → (l.map (fun t => ((t.order : Nat) : Int) + 1) ≠ [] → m ∈ l.map (fun t => ((t.order : Nat) : Int) + 1) ∧ ∀ y ∈ l.map (fun t => ((t.order : Nat) : Int) + 1), y ≤ m) → m = ((orderL l : Nat) : Int) := by
  have up : ∀ l : List Ty, (∀ t ∈ l, t.order + 1 ≤ orderL l) ∧ (l ≠ [] → ∃ t ∈ l, orderL l = t.order + 1) := by
    intro l
    induction l with
    | nil => exact ⟨fun t h => (by cases h), fun h => absurd rfl h⟩
    | cons t r ih =>
      rw [orderL]
      refine ⟨fun u hu => ?_, fun _ => ?_⟩
      · rcases List.mem_cons.mp hu with rfl | hu
        · exact Nat.le_max_left _ _
        · exact Nat.le_trans (ih.1 u hu) (Nat.le_max_right _ _)
      · by_cases h : orderL r ≤ t.order + 1
        · exact ⟨t, List.mem_cons_self .., Nat.max_eq_left h⟩
        · cases r with
          | nil =>
            rw [orderL] at h
            exact absurd (Nat.zero_le _) h
          | cons u s =>
            obtain ⟨w, hw, e⟩ := ih.2 (by simp)
            exact ⟨w, List.mem_cons_of_mem _ hw, by rw [Nat.max_eq_right (by omega)]; exact e⟩
  intro l m h0 h1
  cases l with
  | nil =>
    rw [orderL]
    exact h0 rfl
  | cons t r =>
    obtain ⟨hm, top⟩ := h1 (by simp)
    obtain ⟨u1, u2⟩ := up (t :: r)
    obtain ⟨w, hw, e⟩ := u2 (by simp)
    obtain ⟨v, hv, ev⟩ := List.mem_map.mp hm
    have a1 := top _ (List.mem_map.mpr ⟨w, hw, rfl⟩)
    have a2 := u1 v hv
    omega
theorem words_ins {l : List Ty} {a : Str} {t : Ty} (h : (Ty.mk l a).words) (ht : t ∈ l) : t.words := by
  have sub : ∀ (l : List Ty) (t : Ty), t ∈ l → ∀ b ∈ t.places, b ∈ placesL l := by
    intro l
    induction l with
    | nil => intro t h; cases h
    | cons u r ih =>
      intro t h b hb
      rw [placesL_cons]
      rcases List.mem_cons.mp h with rfl | h
      · exact List.mem_append_left _ hb
      · exact List.mem_append_right _ (ih t h b hb)
  exact fun b hb => h b (by rw [places]; exact List.mem_append_left _ (sub l t ht b hb))
theorem few_ins {l : List Ty} {t : Ty} (ht : t ∈ l) : t.places.length ≤ (placesL l).length := by
  induction l with
  | nil => cases ht
  | cons u r ih =>
    rw [placesL_cons, List.length_append]
    rcases List.mem_cons.mp ht with rfl | h
    · omega
    · have := ih h
      omega
theorem low_ins {l : List Ty} {t : Ty} (ht : t ∈ l) : t.order + 1 ≤ orderL l := by
  induction l with
  | nil => cases ht
  | cons u r ih =>
    rw [orderL]
    rcases List.mem_cons.mp ht with rfl | h
    · exact Nat.le_max_left _ _
    · exact Nat.le_trans (ih h) (Nat.le_max_right _ _)
theorem Fits.ins {l : List Ty} {a : Str} {t : Ty} (f : (Ty.mk l a).Fits) (ht : t ∈ l) : t.Fits := by
  obtain ⟨w, n, o⟩ := f
  rw [places, List.length_append] at n
  rw [order] at o
  have h1 := few_ins ht
  have h2 := low_ins ht
  exact ⟨words_ins w ht, by omega, by omega⟩
end Ty

/-! ### types in the heap -/
mutual
def IsT (C : Addr) (H : Hp) : Ty → V → Prop
  | .mk i a, v => ∃ x dx p q rs, v = .ref x ∧ H x = some (.ins C dx [("_inputs", .ref p), ("_atom", .str a), ("_places", .ref q), ("_order", .int ((Ty.mk i a).order : Nat)), ("_text", .str (Ty.mk i a).text)]) ∧
    H p = some (.tup rs) ∧ IsTs C H i rs ∧ H q = some (.tup ((Ty.mk i a).places.map V.str))
def IsTs (C : Addr) (H : Hp) : List Ty → List V → Prop
  | [], rs => rs = []
  | t :: r, rs => ∃ v vs, rs = v :: vs ∧ IsT C H t v ∧ IsTs C H r vs
end
mutual
theorem IsT.same {C : Addr} {H H' : Hp} (s : Same H H') : ∀ (t : Ty) (v : V), IsT C H t v → IsT C H' t v
  | .mk i a, v, h => by
    rw [IsT] at h ⊢
    obtain ⟨x, dx, p, q, rs, e, hx, hp, hi, hq⟩ := h
    exact ⟨x, dx, p, q, rs, e, s _ _ hx, s _ _ hp, IsTs.same s i rs hi, s _ _ hq⟩
theorem IsTs.same {C : Addr} {H H' : Hp} (s : Same H H') : ∀ (l : List Ty) (rs : List V), IsTs C H l rs → IsTs C H' l rs
  | [], rs, h => by
    rw [IsTs] at h ⊢
    exact h
  | t :: r, rs, h => by
    rw [IsTs] at h ⊢
    obtain ⟨v, vs, e, h1, h2⟩ := h
    exact ⟨v, vs, e, IsT.same s t v h1, IsTs.same s r vs h2⟩
end
theorem IsTs.get {C : Addr} {H : Hp} : ∀ {l : List Ty} {rs : List V} {i : Nat} {v : V}, IsTs C H l rs → rs[i]? = some v → ∃ t, l[i]? = some t ∧ IsT C H t v
  | [], rs, i, v, h, e => by
    rw [IsTs] at h
    rw [h] at e
    cases e
  | t :: r, rs, i, v, h, e => by
    rw [IsTs] at h
    obtain ⟨w, ws, rfl, h1, h2⟩ := h
    cases i with
    | zero => exact ⟨t, rfl, by cases e; exact h1⟩
    | succ i => exact IsTs.get (l := r) (i := i) h2 e
theorem IsTs.len {C : Addr} {H : Hp} : ∀ {l : List Ty} {rs : List V}, IsTs C H l rs → rs.length = l.length
  | [], rs, h => by
    rw [IsTs] at h
    rw [h]
    rfl
  | t :: r, rs, h => by
    rw [IsTs] at h
    obtain ⟨w, ws, rfl, h1, h2⟩ := h
    rw [List.length_cons, IsTs.len h2, List.length_cons]
/-- what stands at a type's address -/
theorem IsT.at {C : Addr} {H : Hp} {t : Ty} {v : V} (h : IsT C H t v) : ∃ x dx p q rs, v = .ref x ∧ H x = some (.ins C dx [("_inputs", .ref p), ("_atom", .str t.atom), ("_places", .ref q), ("_order", .int (t.order : Nat)), ("_text", .str t.text)]) ∧
    H p = some (.tup rs) ∧ IsTs C H t.ins rs ∧ H q = some (.tup (t.places.map V.str)) := by
  cases t with
  | mk i a =>
    rw [IsT] at h
    exact h
theorem asg_go2 {i : Nat} {x : V} {σ : L2.St} {H : Hp} {N : L2.St → Hp → Prop} (h : N (σ.set i (some x)) H) : gName i x σ H N := h

/-! ### promises of the class -/
def sp__is_tuple_of_types (K : PySem.W.Frag) (C : Addr) : Sp := fun vs H Q _ => ∃ p rs l, vs = [.ref p] ∧ H p = some (.tup rs) ∧ IsTs C H l rs ∧ l.length ≤ 1000 ∧ ∀ H', Same H H' → Q (.bl true) H'
def sp__text_inside (K : PySem.W.Frag) (C : Addr) : Sp := fun vs H Q _ => ∃ v t, vs = [v] ∧ IsT C H t v ∧ t.text.length ≤ 100000 ∧ t.ins.length ≤ 1000 ∧ Q (.str t.inside) H
def sp_Type___init__ (K : PySem.W.Frag) (C : Addr) : Sp := fun vs H Q _ => ∃ x dx p rs l a, vs = [.ref x, .ref p, .str a] ∧ H x = some (.ins C dx []) ∧ H p = some (.tup rs) ∧ IsTs C H l rs ∧ (Ty.mk l a).Fits ∧
  ∀ q H', (∀ b o, b ≠ x → H b = some o → H' b = some o) → H' x = some (.ins C dx [("_inputs", .ref p), ("_atom", .str a), ("_places", .ref q), ("_order", .int ((Ty.mk l a).order : Nat)), ("_text", .str (Ty.mk l a).text)]) →
    H' q = some (.tup ((Ty.mk l a).places.map V.str)) → Q .non H'
section
variable {P : Program} {w : World} {K : PySem.W.Frag} {mg : Str → Option Value} {base : Heap} {C_Type : Addr}
theorem ty_of_ins {H : Hp} {a dx : Addr} {fs : List (Str × V)} (k : Cls K C_Type) (x : XType K C_Type) (h : H a = some (.ins C_Type dx fs)) : TyX K H (.ref a) (.ref C_Type) := .base (.ins h k x.cl1 x.cl2 x.cl3 x.cl4)
theorem kit_self (C : Addr) : PySem.W.kitOne K (.ref C) (.ref C) = some true := by
  unfold PySem.W.kitOne
  rw [if_pos (by simp)]
theorem ok__is_tuple_of_types (T : Txt K mg C_Type C_Library) {f : Addr} {fd : FuncData} (F : Fun K "_is_tuple_of_types" "_is_tuple_of_types" s__is_tuple_of_types f fd) : FnOk P w K mg base CX0 1 f fd ["value"] (sp__is_tuple_of_types K C_Type) := by
  have nd := sc__is_tuple_of_types.nd
  refine F.ok sc__is_tuple_of_types (fun vs H Q E h => ?_) (fun cdv A outer s H vs Q E hr h => ?_)
  · obtain ⟨p, rs, l, rfl, _⟩ := h
    rfl
  · obtain ⟨p, rs, l, rfl, hp, hl, hn, q⟩ := h
    refine ⟨_, (pss_one (ps_ret (pe_and (pe_callB call_isi (by rfl) T.b_isinstance (by decide +kernel) (pa_cons (pv 0) (pa_cons (pe_bltn (v := .ty "tuple") (u := .type "tuple") (by rfl) T.b_tuple (by decide +kernel) rfl) pa_nil))) (pe_one (pe_callB (cr_all rfl) (by rfl) T.b_all (by decide +kernel) (pa_cons (pe_lcD (own := [("one", 1)]) (by rfl) nd (pi_tup (pv 0)) (blkOk_by (own := [("one", 1)]) (N := ["value", "one"]) (sc := (defScope s__is_tuple_of_types)) (by decide +kernel)) (fun _ _ _ _ _ => pg_name (i := 1) nd rfl (Or.inl rfl)) (fun _ _ _ _ _ => pts_nil) (fun _ _ _ _ _ => (pe_callB call_isi (by rfl) T.b_isinstance (by decide +kernel) (pa_cons (pv 1) (pa_cons (pe_glob (v := .ref C_Type) rfl T.c_Type rfl) pa_nil))))) pa_nil)))))), ?_⟩
    refine ⟨.ref p, rfl, .ref p, .ty "tuple", .type "tuple", .type "tuple", true, rfl, .ty _, .base (.tup hp), kit_ty (by decide +kernel), true, rfl, iteT ?_⟩
    refine ⟨.ref p, rfl, p, rfl, ⟨rs, SqT.of hp⟩, fun D hD => lc_tup (xs := rs) (fun i H' => H' D = some (.lst ((List.replicate i true).map V.bl)) ∧ Same H H') ?_ (fun i H1 _ hP => SqT.of (hP.2 _ _ hp)) (fun i x H1 hx hP => ?_) (fun H1 hP => ?_)⟩
    · exact ⟨upd_same, (Same.refl H).mut hD⟩
    · obtain ⟨hD1, s1⟩ := hP
      obtain ⟨t, _, ht⟩ := hl.get hx
      obtain ⟨a, dx, p', q', rs', rfl, ha, _⟩ := (IsT.same s1 t x ht).at
      have io := lt_of_get hx
      rw [hl.len] at io
      refine ⟨rfl, tyes ?_⟩
      refine ⟨.ref a, rfl, .ref a, .ref C_Type, .ref C_Type, .ref C_Type, true, rfl, .own _, ty_of_ins T.k_Type T.x_Type ha, kit_self _, _, hD1, lt_line' ?_, ?_, s1.mut hD⟩
      · rw [List.length_map, List.length_replicate]
        omega
      · rw [upd_same, List.replicate_succ', List.map_append]
        rfl
    · obtain ⟨hD1, s1⟩ := hP
      refine ⟨D, _, rfl, SqL.of hD1, ?_⟩
      have e : (List.replicate rs.length true).all id = true := List.all_eq_true.mpr fun b hb => by
        rw [List.eq_of_mem_replicate hb]
        rfl
      rw [e]
      exact q _ s1
theorem ok__text_inside (T : Txt K mg C_Type C_Library) (p_Type_inputs : PrpC P w K mg base C_Type "inputs" 1 ["self"] (getSp C_Type "_inputs")) (p_Type_text : PrpC P w K mg base C_Type "text" 1 ["self"] (getSp C_Type "_text")) {f : Addr} {fd : FuncData} (F : Fun K "_text_inside" "_text_inside" s__text_inside f fd) : FnOk P w K mg base CX0 3 f fd ["wanted"] (sp__text_inside K C_Type) := by
  have nd := sc__text_inside.nd
  refine F.ok sc__text_inside (fun vs H Q E h => ?_) (fun cdv A outer s H vs Q E hr h => ?_)
  · obtain ⟨v, t, rfl, _⟩ := h
    rfl
  · obtain ⟨v, t, rfl, ht, hz, hi, q⟩ := h
    refine ⟨_, (pss_cons (ps_if (pt_truth (pe_propC p_Type_inputs T.k_Type (hr.mono (by first | decide | omega)) (pv 0)) (by intro _; rfl)) (pss_one (ps_ret (pe_joined (PJ.cons pe_str (PJ.cons (pe_fmt (pe_propC p_Type_text T.k_Type (hr.mono (by first | decide | omega)) (pv 0))) (PJ.cons pe_str PJ.nil)))))) pss_nil)
      (pss_one (ps_ret (pe_propC p_Type_text T.k_Type (hr.mono (by first | decide | omega)) (pv 0))))), ?_⟩
    obtain ⟨a, dx, p, q', rs, rfl, ha, hp, hs, hq⟩ := ht.at
    refine ⟨.ref a, rfl, a, dx, _, rfl, ha, a, dx, _, .ref p, rfl, ha, rfl, _, .inr (.inl ⟨rs, SqT.of hp, rfl⟩), ?_⟩
    have hl := hs.len
    unfold Ty.inside at q
    cases hc : t.ins with
    | nil =>
      rw [hc] at hl q
      rw [List.length_eq_zero_iff.mp hl]
      refine iteF ?_
      exact ⟨.ref a, rfl, a, dx, _, rfl, ha, a, dx, _, .str t.text, rfl, ha, rfl, q⟩
    | cons t' r =>
      rw [hc] at hl q
      cases rs with
      | nil => cases hl
      | cons y ys =>
        refine iteT ?_
        refine ⟨"(", rfl, by decide +kernel, .ref a, rfl, a, dx, _, rfl, ha, a, dx, _, .str t.text, rfl, ha, rfl, .inl ⟨_, rfl, lt_line (by omega), _, rfl, ?_, ")", rfl, ?_, ?_⟩⟩
        · rw [len_tl, tl_append, List.length_append, ← len_tl, ← len_tl]
          exact lt_line (by have : (Str.empty ++ ("(" : Str)).length = 1 := by decide +kernel
                            omega)
        · rw [len_tl, tl_append, tl_append, List.length_append, List.length_append, ← len_tl, ← len_tl, ← len_tl]
          exact lt_line (by have h1 : (Str.empty ++ ("(" : Str)).length = 1 := by decide +kernel
                            have h2 : ((")" : Str)).length = 1 := by decide +kernel
                            omega)
        · have e : Str.empty ++ ("(" : Str) = ("(" : Str) := by decide +kernel
          rw [e]
          exact q
end


end My
namespace My
open PySem PySem.Spec PyProof.Rows L2 TL
set_option pp.maxSteps 400
set_option pp.deepTerms false
/-! ### what stays, but for new instances -/
/-- all stays but an instance without fields -/
def Kept (H H' : Hp) : Prop := ∀ b o, H b = some o → (∀ C dx, o ≠ .ins C dx []) → H' b = some o
theorem _root_.L2.Same.kept {H H' : Hp} (s : Same H H') : Kept H H' := fun b o h _ => s b o h
theorem Kept.same {H H' H2 : Hp} (k : Kept H H') (s : Same H' H2) : Kept H H2 := fun b o h n => s b o (k b o h n)
theorem Kept.new {H H' : Hp} (k : Kept H H') {x C dx : Addr} {o : HO} (h : H x = some (.ins C dx [])) : Kept H (upd H' x o) := fun b u hb n => by
  rw [upd_ne (ne_of hb h (n C dx))]
  exact k b u hb n
theorem Ty.ins_len (t : Ty) : t.ins.length ≤ t.places.length := by
  cases t with
  | mk i a =>
    rw [Ty.places, List.length_append]
    exact Nat.le_trans (Ty.len_placesL i) (Nat.le_add_right _ _)
theorem putF_new (f : Str) (v : V) : ∀ fs : List (Str × V), (∀ g ∈ fs.map (·.1), g ≠ f) → putF f v fs = fs ++ [(f, v)]
  | [], _ => rfl
  | (g, x) :: r, h => by
    unfold putF
    rw [if_neg (h g (List.mem_cons_self ..)), putF_new f v r fun k hk => h k (List.mem_cons_of_mem _ hk)]
    rfl
mutual
theorem IsT.kept {C : Addr} {H H' : Hp} (s : Kept H H') : ∀ (t : Ty) (v : V), IsT C H t v → IsT C H' t v
  | .mk i a, v, h => by
    rw [IsT] at h ⊢
    obtain ⟨x, dx, p, q, rs, e, hx, hp, hi, hq⟩ := h
    exact ⟨x, dx, p, q, rs, e, s _ _ hx (fun _ _ z => nomatch z), s _ _ hp (fun _ _ z => nomatch z), IsTs.kept s i rs hi, s _ _ hq (fun _ _ z => nomatch z)⟩
theorem IsTs.kept {C : Addr} {H H' : Hp} (s : Kept H H') : ∀ (l : List Ty) (rs : List V), IsTs C H l rs → IsTs C H' l rs
  | [], rs, h => by
    rw [IsTs] at h ⊢
    exact h
  | t :: r, rs, h => by
    rw [IsTs] at h ⊢
    obtain ⟨v, vs, e, h1, h2⟩ := h
    exact ⟨v, vs, e, IsT.kept s t v h1, IsTs.kept s r vs h2⟩
end
theorem nx_go {D : Ends} {σ : L2.St} {H : Hp} (h : D.nx σ H) : tNext D σ H := h
section
variable {P : Program} {w : World} {K : PySem.W.Frag} {mg : Str → Option Value} {base : Heap} {C_Type : Addr}
theorem ok_Type___init__ (T : Txt K mg C_Type C_Library) (c__is_tuple_of_types : CalN P w K mg base "_is_tuple_of_types" 1 ["value"] (sp__is_tuple_of_types K C_Type)) (c_is_word : CalN P w K mg base "is_word" 1 ["value"] (sp_is_word K)) (p_Type_order : PrpC P w K mg base C_Type "order" 1 ["self"] (getSp C_Type "_order")) (c__text_inside : CalN P w K mg base "_text_inside" 3 ["wanted"] (sp__text_inside K C_Type)) {f : Addr} {fd : FuncData} (F : Fun K "__init__" "Type.__init__" s_Type___init__ f fd) : FnOk P w K mg base CX0 4 f fd ["self", "inputs", "atom"] (sp_Type___init__ K C_Type) := by
  have nd := sc_Type___init__.nd
  refine F.ok sc_Type___init__ (fun vs H Q E h => ?_) (fun cdv A outer s H vs Q E hr h => ?_)
  · obtain ⟨x, dx, p, rs, l, a, rfl, _⟩ := h
    rfl
  · obtain ⟨x, dx, p, rs, l, a, rfl, hx, hp, hl, fit, q⟩ := h
    refine ⟨_, (pss_cons (ps_if (pt_not (pt_val (pe_callN c__is_tuple_of_types (hr.mono (by first | decide | omega)) rfl (pa_cons (pv 1) pa_nil)))) (pss_one ps_never) pss_nil)
      (pss_cons (ps_if (pt_not (pt_val (pe_callN c_is_word (hr.mono (by first | decide | omega)) rfl (pa_cons (pv 2) pa_nil)))) (pss_one ps_never) pss_nil)
      (pss_cons (ps_set (i := 3) nd rfl (.inl rfl) (pe_op op_cat (pe_lc2D (own := [("one", 5), ("word", 6)]) (vs1 := [6]) (by rfl) nd (pi_tup (pv 1)) (blkOk_by (own := [("one", 5), ("word", 6)]) (N := ["self", "inputs", "atom", "places", "order", "one", "word"]) (sc := (defScope s_Type___init__)) (by decide +kernel)) (by decide) (fun _ _ _ _ _ => pg_name (i := 5) nd rfl (Or.inl rfl)) (fun _ _ _ _ _ => pts_nil) (fun _ _ _ _ _ => (pi_tup (pe_fld (pv 5) rfl))) (fun _ _ _ _ _ => pg_name (i := 6) nd rfl (Or.inl rfl)) (fun _ _ _ _ _ => pts_nil) (fun _ _ _ _ _ => (pv 6))) (pe_lst (pa_cons (pv 2) pa_nil))))
      (pss_cons (ps_set (i := 4) nd rfl (.inl rfl) (pe_maxD rfl (by rfl) T.b_max (pe_lcD (own := [("one", 5)]) (by rfl) nd (pi_tup (pv 1)) (blkOk_by (own := [("one", 5)]) (N := ["self", "inputs", "atom", "places", "order", "one", "word"]) (sc := (defScope s_Type___init__)) (by decide +kernel)) (fun _ _ _ _ _ => pg_name (i := 5) nd rfl (Or.inl rfl)) (fun _ _ _ _ _ => pts_nil) (fun _ _ _ _ _ => (pe_op op_add (pe_propC p_Type_order T.k_Type (hr.mono (by first | decide | omega)) (pv 5)) pe_int))) pe_int))
      (pss_cons (ps_if (PW.pt (pw_or (pt_cmpR op_gt (pe_callB call_len (by rfl) T.b_len (by decide +kernel) (pa_cons (pv 3) pa_nil)) (pe_globE rfl T.g_MAX_PLACES) (nomark _)) (pw_or1 (pt_cmpR op_gt (pv 4) (pe_globE rfl T.g_MAX_ORDER) (nomark _))))) (pss_one ps_never) pss_nil)
      (pss_cons (ps_fld (pv 0) (pv 1) rfl)
      (pss_cons (ps_fld (pv 0) (pv 2) rfl)
      (pss_cons (ps_fld (pv 0) (pe_callTy call_tuple_of (by rfl) T.b_tuple (by decide +kernel) (pa_cons (pv 3) pa_nil)) rfl)
      (pss_cons (ps_fld (pv 0) (pv 4) rfl)
      (pss_one (ps_fld (pv 0) (pe_join (pe_globE rfl T.g__ARROW) (pe_op op_cat (pe_lcD (own := [("one", 5)]) (by rfl) nd (pi_tup (pv 1)) (blkOk_by (own := [("one", 5)]) (N := ["self", "inputs", "atom", "places", "order", "one", "word"]) (sc := (defScope s_Type___init__)) (by decide +kernel)) (fun _ _ _ _ _ => pg_name (i := 5) nd rfl (Or.inl rfl)) (fun _ _ _ _ _ => pts_nil) (fun _ _ _ _ _ => (pe_callN c__text_inside (hr.mono (by first | decide | omega)) rfl (pa_cons (pv 5) pa_nil)))) (pe_lst (pa_cons (pv 2) pa_nil)))) rfl))))))))))), ?_⟩
    obtain ⟨fw, fn, fo⟩ := id fit
    have pl : (Ty.mk l a).places = Ty.placesL l ++ [a] := by rw [Ty.places]
    have few : (Ty.placesL l).length ≤ 14 := by
      rw [pl, List.length_append] at fn
      exact Nat.le_of_succ_le_succ fn
    have len : l.length ≤ 14 := Nat.le_trans (Ty.len_placesL l) few
    have aw := fw a (by rw [pl]; exact List.mem_append_right _ (List.mem_singleton.mpr rfl))
    have al := isW_len aw.1
    have hrl := hl.len
    -- the two looks
    refine ⟨.ref p, rfl, p, rs, l, rfl, hp, hl, by omega, fun H1 s1 => ⟨true, rfl, iteF ?_⟩⟩
    refine ⟨.str a, rfl, .str a, rfl, .inl ⟨a, rfl, by omega, aw.2⟩, fun H2 s2 => ⟨true, congrArg V.bl aw.1, iteF ?_⟩⟩
    have s12 := s1.trans s2
    clear s1 s2
    -- places
    refine nx_go ?_
    dsimp only
    refine cut_set (fun v H' => ∃ d, v = .ref d ∧ H' d = some (.lst ((Ty.mk l a).places.map V.str)) ∧ Same H H') (fun Q' q' => ?_) ?_
    · refine ⟨.ref p, rfl, p, rfl, ⟨rs, SqT.of (s12 _ _ hp)⟩, fun D hD => ?_⟩
      have nD : H D = none := s12.free hD
      refine walk_tup (xs := rs) (fun i H' => H' D = some (.lst ((Ty.placesL (l.take i)).map V.str)) ∧ Same H H') ?_ (fun i H' _ hP => SqT.of (hP.2 _ _ hp)) (fun i y H' hy hP => ?_) (fun H' hP => ?_)
      · exact ⟨by rw [upd_same, List.take_zero, Ty.placesL_nil]; rfl, s12.mut nD⟩
      · obtain ⟨hD1, s1⟩ := hP
        obtain ⟨t, et, ht⟩ := hl.get hy
        obtain ⟨b, dx', p', q', rs', rfl, hb, _, _, hq⟩ := (IsT.same s1 t y ht).at
        have tl : t.places.length ≤ 14 := Nat.le_trans (Ty.few_ins (List.mem_of_getElem? et)) few
        refine ⟨rfl, tyes ?_⟩
        refine ⟨.ref b, rfl, b, C_Type, dx', _, .ref q', rfl, hb, T.k_Type, T.x_Type.n_places, rfl, q', rfl, ⟨_, SqT.of hq⟩, ?_⟩
        refine walk_tup (xs := t.places.map V.str) (fun j H'' => H'' D = some (.lst ((Ty.placesL (l.take i) ++ t.places.take j).map V.str)) ∧ Same H H'' ∧ H'' q' = some (.tup (t.places.map V.str))) ?_ (fun i H' _ hP => SqT.of hP.2.2) (fun j y H'' hy2 hP => ?_) (fun H'' hP => ?_)
        · exact ⟨by rw [List.take_zero, List.append_nil]; exact hD1, s1, hq⟩
        · obtain ⟨hD2, s2, hq2⟩ := hP
          rw [List.getElem?_map] at hy2
          cases hz : t.places[j]? with
          | none =>
            rw [hz] at hy2
            cases hy2
          | some z =>
            rw [hz] at hy2
            cases hy2
            have jl := lt_of_get hz
            have i14 : (Ty.placesL (l.take i)).length ≤ 14 := by
              have e : l = l.take i ++ l.drop i := (List.take_append_drop i l).symm
              have : (Ty.placesL l).length = (Ty.placesL (l.take i)).length + (Ty.placesL (l.drop i)).length := by
                rw [← List.length_append, ← Ty.placesL_append, ← e]
              omega
            refine ⟨rfl, tyes ?_⟩
            refine ⟨_, rfl, _, hD2, lt_line' ?_, ?_, s2.mut nD, ?_⟩
            · rw [List.length_map, List.length_append, List.length_take]
              omega
            · rw [upd_same, take_next hz, ← List.append_assoc, List.map_append (l₂ := [z])]
              rfl
            · rw [upd_ne (ne_of hq2 hD2 (fun z => nomatch z))]
              exact hq2
        · obtain ⟨hD2, s2, hq2⟩ := hP
          refine ⟨?_, s2⟩
          rw [hD2, List.length_map, List.take_length, take_next et, Ty.placesL_append, Ty.placesL_cons, Ty.placesL_nil, List.append_nil]
      · obtain ⟨hD1, s1⟩ := hP
        rw [hrl, List.take_length] at hD1
        refine ⟨.str a, rfl, by show 1 ≤ sizeLine; decide, fun d1 h1 => ?_⟩
        refine ⟨D, d1, _, [.str a], rfl, rfl, by rw [upd_ne (ne_of_none hD1 h1)]; exact hD1, upd_same, lt_line (by rw [List.length_map]; show _ + 1 ≤ _; omega), fun d2 h2 => ?_⟩
        refine q' _ _ ⟨d2, rfl, ?_, (s1.new h1).new h2⟩
        rw [upd_same, pl, List.map_append]
        rfl
    rintro v H3 ⟨dp, rfl, hdp, s3⟩
    refine cut_set (fun v H' => v = .int (((Ty.mk l a).order : Nat) : Int) ∧ H' dp = some (.lst ((Ty.mk l a).places.map V.str)) ∧ Same H H') (fun Q' q' => ?_) ?_
    · refine ⟨.ref p, rfl, p, rfl, ⟨rs, SqT.of (s3 _ _ hp)⟩, fun D hD => ?_⟩
      have nD : H D = none := s3.free hD
      refine lc_tup (xs := rs) (fun i H' => H' D = some (.lst (((l.take i).map (fun t => ((t.order : Nat) : Int) + 1)).map V.int)) ∧ H' dp = some (.lst ((Ty.mk l a).places.map V.str)) ∧ Same H H') ?_ (fun i H' _ hP => SqT.of (hP.2.2 _ _ hp)) (fun i y H' hy hP => ?_) (fun H' hP => ?_)
      · exact ⟨by rw [upd_same, List.take_zero]; rfl, by rw [upd_ne (ne_of_none hdp hD)]; exact hdp, s3.mut nD⟩
      · obtain ⟨hD1, hd1, s1⟩ := hP
        obtain ⟨t, et, ht⟩ := hl.get hy
        obtain ⟨b, dx', p', q', rs', rfl, hb, _⟩ := (IsT.same s1 t y ht).at
        have io := lt_of_get hy
        rw [hrl] at io
        refine ⟨rfl, tyes ?_⟩
        refine ⟨.ref b, rfl, b, dx', _, rfl, hb, b, dx', _, .int ((t.order : Nat) : Int), rfl, hb, rfl, ((t.order : Nat) : Int), 1, rfl, rfl, _, hD1, lt_line' ?_, ?_, ?_, s1.mut nD⟩
        · rw [List.length_map, List.length_map, List.length_take]
          omega
        · rw [upd_same, take_next et, List.map_append, List.map_append]
          rfl
        · rw [upd_ne]
          · exact hd1
          · intro e
            subst e
            rw [hdp] at hD
            cases hD
      · obtain ⟨hD1, hd1, s1⟩ := hP
        rw [hrl, List.take_length] at hD1
        refine ⟨_, rfl, D, l.map (fun t => ((t.order : Nat) : Int) + 1), 0, rfl, rfl, SqL.of hD1, fun m h0 h1 => q' _ _ ⟨?_, hd1, s1⟩⟩
        rw [Ty.orderL_max l m h0 h1, Ty.order]
    rintro v H4 ⟨rfl, hd4, s4⟩
    refine ⟨.ref dp, rfl, _, _, rfl, .inl ⟨_, SqL.of hd4, rfl⟩, _, _, rfl, rfl, false, congrArg V.bl (decide_eq_false (by rw [List.length_map]; omega)), iteF ?_⟩
    refine ⟨_, rfl, _, _, rfl, rfl, false, congrArg V.bl (decide_eq_false (by omega)), iteF ?_⟩
    refine nx_go ?_
    dsimp only
    have hx4 := s4 _ _ hx
    refine ⟨.ref p, rfl, .ref x, rfl, x, C_Type, dx, _, rfl, hx4, T.k_Type, T.x_Type.n_inputs, by decide, ?_⟩
    rw [show putF "_inputs" (V.ref p) [] = [(("_inputs" : Str), V.ref p)] from rfl]
    refine ⟨.str a, rfl, .ref x, rfl, x, C_Type, dx, _, rfl, upd_same, T.k_Type, T.x_Type.n_atom, by show 1 < 1000; decide, ?_⟩
    rw [upd_upd, putF_new "_atom" (V.str a) [(("_inputs" : Str), V.ref p)] (show ∀ g ∈ (["_inputs"] : List Str), g ≠ "_atom" by decide +kernel), List.cons_append, List.nil_append]
    have xd : dp ≠ x := ne_of hd4 hx4 (fun z => nomatch z)
    have k5 : ∀ o, Kept H (upd H4 x o) := fun o => s4.kept.new hx
    refine ⟨.ref dp, rfl, dp, _, rfl, .inl ⟨SqL.of ((upd_ne xd).trans hd4), fun q0 hq0 => ?_⟩⟩
    have q0x : x ≠ q0 := ne_of_none upd_same hq0
    refine ⟨.ref x, rfl, x, C_Type, dx, _, rfl, (upd_ne q0x).trans upd_same, T.k_Type, T.x_Type.n_places, by show 2 < 1000; decide, ?_⟩
    rw [putF_new "_places" (V.ref q0) [(("_inputs" : Str), V.ref p), ("_atom", V.str a)] (show ∀ g ∈ (["_inputs", "_atom"] : List Str), g ≠ "_places" by decide +kernel), List.cons_append, List.cons_append, List.nil_append]
    refine ⟨_, rfl, .ref x, rfl, x, C_Type, dx, _, rfl, upd_same, T.k_Type, T.x_Type.n_order, by show 3 < 1000; decide, ?_⟩
    rw [upd_upd, putF_new "_order" (.int (((Ty.mk l a).order : Nat) : Int)) [(("_inputs" : Str), V.ref p), ("_atom", V.str a), ("_places", V.ref q0)] (show ∀ g ∈ (["_inputs", "_atom", "_places"] : List Str), g ≠ "_order" by decide +kernel), List.cons_append, List.cons_append, List.cons_append, List.nil_append]
    generalize hH6 : upd (upd (upd H4 x _) q0 _) x _ = H6
    have hx6 : H6 x = some (.ins C_Type dx [("_inputs", .ref p), ("_atom", .str a), ("_places", .ref q0), ("_order", .int (((Ty.mk l a).order : Nat) : Int))]) := by rw [← hH6, upd_same]
    have hq6 : H6 q0 = some (.tup ((Ty.mk l a).places.map V.str)) := by rw [← hH6, upd_ne (Ne.symm q0x), upd_same]
    have k6 : Kept H H6 := by
      rw [← hH6]
      exact Kept.new (fun b o hb n => by rw [upd_ne (ne_of_none (k5 _ b o hb n) hq0)]; exact k5 _ b o hb n) hx
    have o6 : ∀ b o, b ≠ x → H b = some o → H6 b = some o := fun b o bx hb => by
      have h5 : ∀ u, upd H4 x u b = some o := fun u => by
        rw [upd_ne bx]
        exact s4 b o hb
      rw [← hH6, upd_ne bx, upd_ne (ne_of_none (h5 _) hq0)]
      exact h5 _
    clear hH6
    have hp6 := k6 _ _ hp (fun _ _ z => nomatch z)
    refine ⟨⟨_, rfl⟩, .ref p, rfl, p, rfl, ⟨rs, SqT.of hp6⟩, fun D hD => ?_⟩
    refine lc_tup (xs := rs) (fun i H' => H' D = some (.lst (((l.take i).map Ty.inside).map V.str)) ∧ Same H6 H') ?_ (fun i H' _ hP => SqT.of (hP.2 _ _ hp6)) (fun i y H' hy hP => ?_) (fun H' hP => ?_)
    · exact ⟨by rw [upd_same, List.take_zero]; rfl, (Same.refl H6).mut hD⟩
    · obtain ⟨hD1, s1⟩ := hP
      obtain ⟨t, et, ht⟩ := hl.get hy
      have ft := fit.ins (List.mem_of_getElem? et)
      have io := lt_of_get hy
      rw [hrl] at io
      have f2 := ft.few
      refine ⟨rfl, tyes ?_⟩
      refine ⟨y, rfl, y, t, rfl, IsT.kept (k6.same s1) t y ht, Nat.le_trans (Ty.text_small ft.words ft.few) (by decide), Nat.le_trans t.ins_len (by omega), _, hD1, lt_line' ?_, ?_, s1.mut hD⟩
      · rw [List.length_map, List.length_map, List.length_take]
        omega
      · rw [upd_same, take_next et, List.map_append, List.map_append]
        rfl
    · obtain ⟨hD1, s1⟩ := hP
      rw [hrl, List.take_length, ← Ty.insideL_map] at hD1
      have ln : (Ty.insideL l).length = l.length := by rw [Ty.insideL_map, List.length_map]
      refine ⟨.str a, rfl, by show 1 ≤ sizeLine; decide, fun d1 h1 => ?_⟩
      refine ⟨D, d1, _, [.str a], rfl, rfl, by rw [upd_ne (ne_of_none hD1 h1)]; exact hD1, upd_same, lt_line (by rw [List.length_map, ln]; show _ + 1 ≤ _; omega), fun d2 h2 => ?_⟩
      have s9 := (s1.new (o := .lst [.str a]) h1).new (o := .lst ((Ty.insideL l).map V.str ++ [.str a])) h2
      refine ⟨" -> ", d2, Ty.insideL l ++ [a], rfl, rfl, .inl (SqL.of ?_), ?_, ?_⟩
      · rw [upd_same, List.map_append]
        rfl
      · have i1 := Ty.insideL_len l (fun b hb => (isW_len (fw b (by rw [pl]; exact List.mem_append_left _ hb)).1).2)
        have sep : (" -> " : Str).length = 4 := by decide +kernel
        rw [List.map_append, List.sum_append, List.length_append, sep, ln]
        show _ + [a.length].sum + (l.length + 1) * 4 ≤ 16777216
        rw [show [a.length].sum = a.length from Nat.add_zero _]
        omega
      · refine ⟨.ref x, rfl, x, C_Type, dx, _, rfl, s9 _ _ hx6, T.k_Type, T.x_Type.n_text, by show 4 < 1000; decide, ?_⟩
        rw [putF_new "_text" (.str (Txt.join " -> " (Ty.insideL l ++ [a]))) [(("_inputs" : Str), V.ref p), ("_atom", V.str a), ("_places", V.ref q0), ("_order", .int (((Ty.mk l a).order : Nat) : Int))] (show ∀ g ∈ (["_inputs", "_atom", "_places", "_order"] : List Str), g ≠ "_text" by decide +kernel)]
        refine q q0 _ (fun b o bx hb => ?_) ?_ ?_
        · rw [upd_ne bx]
          exact s9 b o (o6 b o bx hb)
        · rw [upd_same, Ty.text]
          rfl
        · rw [upd_ne (Ne.symm q0x)]
          exact s9 _ _ hq6
end


end My
namespace My
open PySem PySem.Spec PyProof.Rows L2 TL
/-! ### sets of texts: made of a tuple or a list of texts, sorted -/
section
open PySem.Froz
/-- what a set of texts keeps: its payload holds the texts L, each once; its table rises and can be walked -/
structure TxR (P : Program) (w : World) (D : SD) (L : List Str) : Prop where
  ok : TxOk P w D L
  nd : L.Nodup
  rows : ((D.1.toList.map (·.2)).map strOf).Perm L
  str : ∀ v ∈ D.1.toList.map (·.2), ∃ k u, v = Value.str k u
  ris : Ris D.2.2.place.toList
  led : w.params.followText "set-order" = true ∨ D.2.2.led = true
theorem tailTx_eq (ep : Nat) (es : Array (Int × Value)) (t : SetTable) (b : Bool) : ∃ es' ep' t', tailTx ep es t b = (es', ep', t') ∧ es'.toList.Perm es.toList ∧ (Ris t.place.toList → Ris t'.place.toList) ∧ t'.led = t.led := by
  unfold tailTx
  by_cases c : (!b && t.tooFull) = true
  · rw [if_pos c]
    exact ⟨_, _, _, rfl, relayAll_perm _ _ _, fun _ => relayAll_ris _ _ _, relayAll_led _ _ _⟩
  · rw [if_neg c]
    exact ⟨_, _, _, rfl, List.Perm.refl _, id, rfl⟩
theorem TxR.add {P : Program} {w : World} {D : SD} {L : List Str} {k : Str} (u : Tok) (F : TxR P w D L) (hk : k ∉ L) : TxR P w (addTx (hashStr w k) (.str k u) D) (k :: L) := by
  have ok := add_ok u F.ok (k := k)
  obtain ⟨es, ep, t⟩ := D
  obtain ⟨_, nd, rows, str, ris, led⟩ := F
  have p0 := layNew_perm t es (hashStr w k) (.str k u)
  have r0 := layNew_ris t es (hashStr w k) (.str k u) ris
  have l0 := layNew_led t es (hashStr w k) (.str k u)
  rw [Array.toList_push] at p0
  unfold addTx at ok ⊢
  dsimp only at ok ⊢
  generalize hZ : layNew t es (hashStr w k) (.str k u) = Z at p0 r0 l0 ok ⊢
  obtain ⟨es1, t1, wd, gave⟩ := Z
  dsimp only at p0 r0 l0 ok ⊢
  have off : ∀ (c : Bool), ((if c = true then { t1 with plain := false } else t1 : SetTable)).place = t1.place ∧ (if c = true then { t1 with plain := false } else t1 : SetTable).led = t1.led := fun c => by cases c <;> exact ⟨rfl, rfl⟩
  obtain ⟨o1, o2⟩ := off t1.plain
  obtain ⟨es', ep', t', e, pe, re, le⟩ := tailTx_eq ep es1 (if t1.plain = true then { t1 with plain := false } else t1) wd
  rw [e] at ok ⊢
  have pp : (es'.toList.map (·.2)).Perm (es.toList.map (·.2) ++ [Value.str k u]) := by
    have q := (pe.trans p0).map (·.2)
    rw [List.map_append] at q
    exact q
  refine ⟨ok, List.nodup_cons.mpr ⟨hk, nd⟩, ?_, fun v hv => ?_, re (by rw [o1]; exact r0), led.imp id fun z => by rw [le, o2, l0]; exact z⟩
  · have q := pp.map strOf
    rw [List.map_append] at q
    exact q.trans ((List.perm_append_singleton _ _).trans (rows.cons k))
  · rcases List.mem_append.mp (pp.mem_iff.mp hv) with z | z
    · exact str v z
    · exact ⟨k, u, List.mem_singleton.mp z⟩
section
variable {P : Program} {w : World} {A : Around} {E : Value → Shared → Prop} {s : Shared}
theorem add_old {a : Addr} {T : String} {D : SD} {L : List Str} {k : Str} {u : Tok} {Q : Bool → Shared → Prop} (ho : s.heap.get? a = some (sObj T D)) (F : TxOk P w D L) (hk : k ∈ L) (hb : L.length < scanBound) (h : Q false s) :
    wpAny (model P w) A (setAddHashed a (.str k u) (hashStr w k)) Q E s := by
  obtain ⟨es, ep, t⟩ := D
  have hd : (sObj T (es, ep, t)).data = .set es ep t := rfl
  have hf : t.fits es.size = true := F.fit
  have hel : ElemsOf (PySem.strKind P w) es.toList := F.el
  have hsz : es.size = L.length := F.sz
  cases hfi : List.findIdx? (fun e => (PySem.strKind P w).is k e.2) es.toList with
  | none =>
    obtain ⟨e, he, z⟩ := (F.mem k).mp hk
    have c := List.findIdx?_eq_none_iff.mp hfi e he
    rw [z] at c
    cases c
  | some j =>
    unfold setAddHashed setAddHashedIn
    refine wpAny_holding (wpAny_bind (wpAny_setState_of ho hd hf ?_))
    dsimp only
    rw [byScan_of rfl (by omega) hel]
    simp only [↓reduceIte]
    unfold setAddByScan
    refine wpAny_bind (wpAny_bind (wpAny_rule (wpAny_bind (wpAny_setScan_of (knd := PySem.strKind P w) (k := k) (is_str k u) ho hd hf hel ?_))))
    rw [hfi]
    dsimp only
    exact wpAny_pure (wpAny_pure h)
end
/-- the set of texts at a -/
def SetS (P : Program) (w : World) (h : Heap) (a : Addr) (L : List Str) : Prop := ∃ D, h.get? a = some (sObj "set" D) ∧ TxR P w D L
theorem SetS.at {P : Program} {w : World} {h h' : Heap} {a : Addr} {L : List Str} (R : SetS P w h a L) (k : ∀ o, h.get? a = some o → h'.get? a = some o) : SetS P w h' a L := by
  obtain ⟨D, ho, r⟩ := R
  exact ⟨D, k _ ho, r⟩
def freshSet (w : World) : Obj := { cls := .type "set", dict := none, data := .set #[] 0 (.fresh 0 0 (!w.params.followText "set-order")) }
theorem SetS.fresh {P : Program} {w : World} {h : Heap} {a : Addr} (ho : h.get? a = some (freshSet w)) : SetS P w h a [] :=
  ⟨(#[], 0, .fresh 0 0 (!w.params.followText "set-order")), ho, .nil rfl, List.nodup_nil, List.Perm.refl _, fun v hv => (by simp at hv), List.Pairwise.nil, by
    show _ ∨ (!w.params.followText "set-order") = true
    cases w.params.followText "set-order"
    · exact .inr rfl
    · exact .inl rfl⟩
section
variable {P : Program} {w : World} {A : Around} {E : Value → Shared → Prop} {s : Shared}
/-- one text more -/
theorem SetS.put {a : Addr} {L : List Str} {k : Str} {u : Tok} {Q : Bool → Shared → Prop} (R : SetS P w s.heap a L) (room : L.length + 1 < scanBound)
    (h : ∀ b h' L', Heap.SameBut a s.heap h' → SetS P w h' a L' → L'.length ≤ L.length + 1 → (∀ x, x ∈ L' ↔ x = k ∨ x ∈ L) → Q b { s with heap := h' }) :
    wpAny (model P w) A (setAddHashed a (.str k u) (hashStr w k)) Q E s := by
  obtain ⟨D, ho, r⟩ := R
  by_cases hk : k ∈ L
  · exact add_old ho r.ok hk (by omega) (h false s.heap L (Heap.SameBut.refl a s.heap) ⟨D, ho, r⟩ (Nat.le_succ _) fun x => ⟨.inr, fun z => z.elim (fun e => e ▸ hk) id⟩)
  · refine add_x ho r.ok hk room (h true _ (k :: L) (Heap.SameBut.update s.heap a _) ⟨_, get_upd _ ho rfl, r.add u hk⟩ (Nat.le_refl _) fun x => List.mem_cons)
/-- the loop that puts a walk's texts into the set -/
theorem put_texts {I : Addr} {fp wr : List Addr} {G : Array GenState → Array GenState → Prop} {n : Nat} {Pv : Nat → Value → Prop} {St : Nat → Shared → Prop} {R : Result → Shared → Prop}
    (W : WalksS P w A.in1 I fp wr G n Pv St) (S : Addr) (far : S ∉ fp) (ks : List Str) (hn : n = ks.length) (few : ks.length + 1 < scanBound) (txt : ∀ i v, Pv i v → ∃ k u, ks[i]? = some k ∧ v = .str k u) :
    ∀ (m i : Nat) (s : Shared), n - i = m → i ≤ n → St i s → (∃ L, L.length ≤ i ∧ (∀ x, x ∈ L ↔ x ∈ ks.take i) ∧ SetS P w s.heap S L) →
      (∀ s' L, Moved (S :: wr) G s s' → L.length ≤ n → (∀ x, x ∈ L ↔ x ∈ ks) → SetS P w s'.heap S L → R (.ok (.ret .none)) s') →
      codeAny (model P w) A (.builtin "set.update.loop" ⟨[.ref S, .ref I], []⟩) R s := by
  have notW : S ∉ wr := fun z => far (W.sub _ z)
  have wider : ∀ b ∈ wr, b ∈ S :: wr := fun b => List.mem_cons_of_mem _
  intro m
  induction m with
  | zero =>
    intro i s hm hi st ⟨L, hL, mem, hS⟩ fin
    obtain rfl : i = n := by omega
    refine codeAny_builtin F.entry_set_update_loop ?_
    rw [Around.under_plainId F.plain_set_update_loop _]
    refine wpAny_bind (W.done s _ _ st fun s' mv => ?_)
    rw [List.take_of_length_le (by omega)] at mem
    exact wpAny_pure (fin s' L (mv.mono wider) hL mem (hS.at fun o e => mv.heap S o notW e))
  | succ m ih =>
    intro i s hm hi st ⟨L, hL, mem, hS⟩ fin
    have lt : i < n := by omega
    refine codeAny_builtin F.entry_set_update_loop ?_
    rw [Around.under_plainId F.plain_set_update_loop _]
    refine wpAny_bind (W.item i s _ _ lt st fun v s1 hv st1 mv => ?_)
    obtain ⟨k, u, hk, rfl⟩ := txt i v hv
    have hS1 : SetS P w s1.heap S L := hS.at fun o e => mv.heap S o notW e
    show wpAny _ A.in1 (holding [Value.str k u] (setAdd S (.str k u)) >>= _) _ _ s1
    refine wpAny_bind (wpAny_holding ?_)
    unfold setAdd
    refine wpAny_holding (wpAny_bind ((PySem.strKind P w).pyHash (k := k) (is_str k u) ?_))
    refine SetS.put (s := { s1 with toks := s1.toks + 1 }) hS1 (by omega) fun b h' L' sb hS2 hL2 mem2 => ?_
    refine wpAny_pure ⟨plainId_quiet F.plain_set_update_loop _, ih (i + 1) _ (by omega) lt (W.frame _ s1 _ _ st1 (Nat.le_succ _) fun c hc o e => ?_) ⟨L', by omega, fun x => ?_, hS2⟩ fun s2 L2 mv2 hL3 mem3 hS3 => ?_⟩
    · rw [sb.2 c (fun z => far (z ▸ hc))]
      exact e
    · rw [mem2, mem, List.take_add_one, hk, List.mem_append]
      show _ ↔ _ ∨ x ∈ [k]
      rw [List.mem_singleton]
      exact Or.comm
    · refine fin s2 L2 (Moved.trans W.gtrans ((mv.mono wider).then_heap (Nat.le_succ _) fun c o hc e => ?_) mv2) hL3 mem3 hS3
      rw [sb.2 c (fun z => hc (z ▸ List.mem_cons_self))]
      exact e
end
end


end My
namespace My
open PySem PySem.Spec PyProof.Rows L2 TL
/-! ### set(x), x a tuple or a list of texts -/
section
variable {P : Program} {w : World} {A : Around} {E : Value → Shared → Prop} {s : Shared}
/-- set(x): what __init__ does with the new, empty set is left open -/
theorem set_call (a : Value) {Q : Value → Shared → Prop} {R : Shared → Prop} (init : codeAny (model P w) A.in1 (.call (.builtin "set.__init__") ⟨[.ref s.heap.objs.size, a], []⟩) (wants (fun r s2 => r = .none ∧ R s2) E) { s with heap := s.heap.push (freshSet w) }) (fin : ∀ s2, R s2 → Q (.ref s.heap.objs.size) s2) :
    wpAny (model P w) A (call (.type "set") [a]) Q E s := by
  obtain ⟨c, tl, hmro⟩ := F.called_set.mro
  have hmade := F.called_set.made
  have hsub := F.called_set.sub
  refine wpAny_call (codeAny_of_tree ?_)
  show wpAny _ _ (callAny (.type "set") _) _ _ _
  refine wpAny_pure ⟨Code.quiet_builtin _ (by decide +kernel), codeAny_builtin F.entry_type_call ?_⟩
  rw [Around.under_plain (weight_type_call_type "set" [a] []) rfl]
  have h1 := F.called_set.notType
  have h2 := F.called_set.canCreate
  have hct := F.typeCall_set_1 a
  repeat (any_goals (first | assumption | wp_step))
  refine codeAny_mono (code_set_led1 a (E := E) (Q₁ := fun obj s₁ => obj = .ref s.heap.objs.size ∧ s₁ = { s with heap := s.heap.push (freshSet w) }) ⟨rfl, rfl⟩) fun r s₁ hr => ?_
  match r, hr with
  | .error e, hr => exact hr
  | .ok .next, hr => exact hr.elim
  | .ok .brk, hr => exact hr.elim
  | .ok .cont, hr => exact hr.elim
  | .ok (.ret obj), hr =>
    obtain ⟨rfl, rfl⟩ := hr
    have hS : (s.heap.push (freshSet w)).get? s.heap.objs.size = some (freshSet w) := Heap.get?_push_size _ rfl
    have hT : Shared.TypeIs { s with heap := s.heap.push (freshSet w) } (.ref s.heap.objs.size) "set" := ⟨_, hS, rfl⟩
    have hli := F.called_set.init.lookup
    have hbi := F.called_set.init.bind (.ref s.heap.objs.size)
    repeat (any_goals (first | assumption | wp_step))
    refine codeAny_mono init fun r2 s2 hr2 => ?_
    match r2, hr2 with
    | .error e, hr2 => exact hr2
    | .ok .next, hr2 => exact hr2.elim
    | .ok .brk, hr2 => exact hr2.elim
    | .ok .cont, hr2 => exact hr2.elim
    | .ok (.ret v), hr2 =>
      obtain ⟨rfl, q⟩ := hr2
      repeat (any_goals (first | assumption | wp_step))
      exact fin _ q
theorem txt_at : ∀ {us : List Value} {ks : List Str}, StrsAre us ks → us.length = ks.length ∧ ∀ (i : Nat) (v : Value), us[i]? = some v → ∃ k u, ks[i]? = some k ∧ v = .str k u
  | _, _, .nil => ⟨rfl, fun i v h => (by simp at h)⟩
  | _, _, .cons n t r => by
    obtain ⟨l, g⟩ := txt_at r
    refine ⟨congrArg (· + 1) l, fun i v h => ?_⟩
    cases i with
    | zero => exact ⟨n, t, rfl, (Option.some.inj h).symm⟩
    | succ i => exact g i v h
/-- the walk over a tuple or a list puts its texts into the new set -/
theorem set_tup {l : Addr} {items : Array Value} {ks : List Str} {Q : Value → Shared → Prop} (hh : A.handled = none) (hl : s.heap.IsTuple l items) (hi : StrsAre items.toList ks) (few : ks.length + 1 < scanBound)
    (h : ∀ (h' : Heap) (tk : Nat) L, SetS P w h' s.heap.objs.size L → L.length ≤ ks.length → (∀ x, x ∈ L ↔ x ∈ ks) → (∀ b o, s.heap.get? b = some o → h'.get? b = some o) → Q (.ref s.heap.objs.size) { s with heap := h', toks := tk }) :
    wpAny (model P w) A (call (.type "set") [.ref l]) Q E s := by
  obtain ⟨⟨ocls, odict, odata, oslots⟩, hol, hcl, nl, hdl⟩ := hl
  simp only at hcl hdl
  subst hcl
  subst hdl
  have hS : (s.heap.push (freshSet w)).get? s.heap.objs.size = some (freshSet w) := Heap.get?_push_size _ rfl
  have hT : Shared.TypeIs { s with heap := s.heap.push (freshSet w) } (.ref s.heap.objs.size) "set" := ⟨_, hS, rfl⟩
  have hol' : (s.heap.push (freshSet w)).get? l = some { cls := .type "tuple", dict := odict, data := .seq items nl, slots := oslots } := Heap.get?_push_of_some _ hol
  have hl1 : (s.heap.push (freshSet w)).IsTuple l items := ⟨_, hol', rfl, nl, rfl⟩
  refine set_call (R := fun s2 => ∃ h' tk L, s2 = { s with heap := h', toks := tk } ∧ SetS P w h' s.heap.objs.size L ∧ L.length ≤ ks.length ∧ (∀ x, x ∈ L ↔ x ∈ ks) ∧ ∀ b o, s.heap.get? b = some o → h'.get? b = some o) (.ref l) (codeAny_call_builtin F.called_set.init.plain F.entry_set_init (check_set_init_1 hT ?_)) fun s2 ⟨h', tk, L, e, q1, q2, q3, q4⟩ => by rw [e]; exact h h' tk L q1 q2 q3 q4
  have hsls := F.sub_tuple_set
  have hslf := F.sub_tuple_frozenset
  have hne : (Value.type "tuple" == Value.type "dict") = false := by decide
  unfold Builtin.«set.__init__» noKeywords Builtin.Frozenset.updateFrom
  generalize hPI : pyIter = PI
  wp_walk
  subst hPI
  refine wpAny_pyIter_tuple hl1 ?_
  refine wpAny_bind (wpAny_runValue ?_)
  have hlS : l < s.heap.objs.size := Heap.lt_size hol
  have sz : (s.heap.push (freshSet w)).objs.size = s.heap.objs.size + 1 := Heap.size_push ..
  obtain ⟨ln, txt⟩ := txt_at hi
  rw [Array.length_toList] at ln
  refine put_texts ((Walks.tuple (by simp [hh]) _ l (by rw [sz]; exact Nat.ne_of_lt (Nat.lt_succ_of_lt hlS)) items).toS) s.heap.objs.size ?_ ks ln few (fun i v hv => txt i v (by rw [Array.getElem?_toList]; exact hv)) (items.size - 0) 0 _ (by omega) (Nat.zero_le _)
    ⟨⟨_, Heap.get?_push_size _ rfl, rfl, rfl⟩, hl1.push _⟩ ⟨[], Nat.le_refl _, fun x => by rw [List.take_zero], SetS.fresh (Heap.get?_push_of_some _ hS)⟩ fun s' L mv hL mem hS' => ?_
  · rw [sz]
    simp only [List.mem_cons, List.not_mem_nil, or_false, not_or]
    exact ⟨Nat.ne_of_lt (Nat.lt_succ_self _), Nat.ne_of_gt hlS⟩
  · obtain ⟨h', g2, d', tk', os'⟩ := s'
    have eg : g2 = s.gens := mv.gens
    have ed : d' = s.drawn := mv.drawn
    have eo : os' = s.os := mv.os
    subst eg
    subst ed
    subst eo
    show wpAny _ _ _ _ _ _
    refine wpAny_pure ?_
    show wpAny _ _ (ret Value.none) _ _ _
    refine wpAny_pure ⟨rfl, h', tk', L, rfl, hS', by omega, mem, fun b o e => ?_⟩
    have hb : b < s.heap.objs.size := Heap.lt_size e
    refine mv.heap b o ?_ (Heap.get?_push_of_some _ (Heap.get?_push_of_some _ e))
    simp only [List.mem_cons, List.not_mem_nil, or_false, not_or]
    exact ⟨Nat.ne_of_lt hb, by show b ≠ (s.heap.push (freshSet w)).objs.size; rw [sz]; exact Nat.ne_of_lt (Nat.lt_succ_of_lt hb)⟩
end


end My
namespace My
open PySem PySem.Spec PyProof.Rows L2 TL
/-! ### sorted(a set of texts); set and sorted as calls -/
section
open PySem.Froz
variable {P : Program} {w : World} {A : Around} {E : Value → Shared → Prop} {s : Shared}
theorem SetS.sorted {a : Addr} {L : List Str} {Q : Value → Shared → Prop} (R : SetS P w s.heap a L) (hh : A.handled = none) (h64 : L.length < 64)
    (h : ∀ s' p (out : Array Value) (c : Nat) (ys : List Str), (∀ b o, s.heap.get? b = some o → s'.heap.get? b = some o) → s'.gens = s.gens → s'.os = s.os → s.heap.objs.size ≤ p → s'.heap.get? p = some (seqObj "list" out c) →
      StrsAre out.toList ys → ys.Perm L → ys.Nodup → sortedS ys = true → Q (.ref p) s') : wpAny (model P w) A (call (.builtin "sorted") [.ref a]) Q E s := by
  obtain ⟨⟨es, ep, t⟩, ho, ok, nd, rows, str, ris, led⟩ := R
  have hsz : es.size = L.length := ok.sz
  refine Calls.call_function_entry kind_sorted plain_sorted entry_sorted (args_sorted1 _) ?_
  unfold Builtin.«sorted»
  refine wpAny_bind (m := checkCount "sorted" 1 1 _) (wpAny_pure ?_)
  refine wpAny_bind (collect_set (A := A.in1) hh ⟨_, ho, rfl, rfl⟩ ok.fit (by show es.size < scanBound; rw [hsz]; unfold scanBound; omega) ris led fun s1 vs k1 hz g1 o1 pm => ?_)
  have S0 : StrsAre vs (vs.map strOf) := strsAre_map vs fun v hv => str v (pm.mem_iff.mp hv)
  have pk : (vs.map strOf).Perm L := (pm.map strOf).trans rows
  have ln : vs.length = L.length := by rw [← pk.length_eq, List.length_map]
  refine wpAny_bind (wpAny_newList ?_ (by rw [ln, sizeLine_eq]; omega))
  have hoL : (s1.heap.push (seqObj "list" vs.toArray 0)).get? s1.heap.objs.size = some (seqObj "list" vs.toArray 0) := Heap.get?_push_size _ rfl
  refine wpAny_bind (wpAny_holding (wpAny_call_entry slot_list_sort ⟨_, hoL, rfl⟩ entry_list_sort
    (list_sort_treeK strKind_oneLt (s := { s1 with heap := s1.heap.push (seqObj "list" vs.toArray 0) }) hoL S0.keysOf (fun v₁ v₂ rest e => keyKind_strs (by rw [← e]; exact S0)) (by rw [ln]; exact h64) fun st' hp hs => ⟨_, rfl, ?_⟩) (args_list_sort _)))
  obtain ⟨ys, y1, y2, y3⟩ := sorted_out_str S0 hp hs
  obtain ⟨c, hc⟩ := sortedHeap_at (vs := vs) (out := (arrOf st').map (·.2)) hoL
  have pL := y2.trans pk
  refine wpAny_pure ⟨_, rfl, h _ s1.heap.objs.size _ c ys (fun b u e => ?_) g1 o1 hz hc y1 pL (pL.nodup_iff.mpr nd) y3⟩
  have e1 := k1 b u e
  have lt := Heap.lt_size e1
  show (sortedHeap (s1.heap.push (seqObj "list" vs.toArray 0)) s1.heap.objs.size vs _).get? b = some u
  rw [sortedHeap_old (Nat.ne_of_lt lt) (by rw [size_push']; exact Nat.lt_succ_of_lt lt)]
  exact Heap.get?_push_of_some _ e1
end
/-- the set of texts at a, in the drawn heap -/
def SetSO (P : Program) (w : World) (a : Addr) (L : List Str) : HO := .ext fun h => SetS P w h a L
theorem setSO_new {w : World} {P : Program} {H : Hp} {h : Heap} {a : Addr} {L : List Str} (R : SetS P w h a L) : ObjOk P w H h a (SetSO P w a L) := by
  have ⟨D, ho, _⟩ := R
  exact ⟨R, ⟨_, ho⟩, fun h1 h2 p k => SetS.at p k⟩
section
variable {X : Cx}
/-- set(x), x a tuple of texts -/
def rSetS (K : PySem.W.Frag) (P : Program) (w : World) : List V → Hp → VK → Prop := fun xs H Q => ∃ (l : Addr) (ks : List Str), xs = [V.ref l] ∧ SqT K H l (ks.map V.str) ∧ ks.length < 64 ∧
  ∀ a L, H a = none → L.length ≤ ks.length → (∀ x, x ∈ L ↔ x ∈ ks) → Q (.ref a) (upd H a (SetSO P w a L))
theorem cr_setS (hc : X.calm = true) : CallR X (.type "set") (rSetS X.K X.prog X.w) := by
  intro pins s σ H xs us Q I r h
  obtain ⟨l, ks, rfl, hl, hf, q⟩ := h
  rw [Vals.ref1 r]
  obtain ⟨its, rv, ⟨o, ho, hc1, n, hd⟩, hz⟩ := I.tuple hl
  refine set_tup (P := X.prog) (w := X.w) (ks := ks) (I.ok.hd hc) ⟨o, ho, hc1, n, hd⟩ (by simpa using strsAre_of rv) (by unfold scanBound; omega) fun h' tk L R hL mem k => ?_
  exact ⟨.ref s.heap.objs.size, upd H s.heap.objs.size (SetSO X.prog X.w s.heap.objs.size L), I.laid (t' := tk) k (Nat.le_refl _) (setSO_new R), rfl, q _ L (I.hok.fresh (Nat.le_refl _)) hL mem⟩
/-- sorted(x), x a set of fewer than 64 texts -/
def rSortS (P : Program) (w : World) : List V → Hp → VK → Prop := fun xs H Q => ∃ (a : Addr) (L : List Str), xs = [V.ref a] ∧ H a = some (SetSO P w a L) ∧ L.length < 64 ∧
  ∀ (ys : List Str) (p : Addr), ys.Perm L → ys.Nodup → sortedS ys = true → H p = none → Q (.ref p) (upd H p (.lst (ys.map V.str)))
theorem vals_strs : ∀ {us : List Value} {ys : List Str}, StrsAre us ys → Vals (ys.map V.str) us
  | _, _, .nil => .nil
  | _, _, .cons n t r => .cons ⟨t, rfl⟩ (vals_strs r)
theorem cr_sortS (hc : X.calm = true) : CallR X (.builtin "sorted") (rSortS X.prog X.w) := by
  intro pins s σ H vs us Q I r h
  obtain ⟨a, L, rfl, ha, h64, q⟩ := h
  rw [Vals.ref1 r]
  have R : SetS X.prog X.w s.heap a L := (I.hok a _ ha).1
  refine R.sorted (I.ok.hd hc) h64 fun s' p out c ys k g o hp hg hs pm nd so => ?_
  have hlen : (ys.map V.str).length ≤ sizeLine := by rw [List.length_map, pm.length_eq, sizeLine_eq]; omega
  have hn : H p = none := I.hok.fresh hp
  have J : Inv X pins σ (upd H p (.lst (ys.map V.str))) { s with heap := s'.heap, gens := s'.gens, drawn := s'.drawn, toks := s'.toks } :=
    I.call (ch := []) (Un.laid k hp hn) (I.hok.laid k hp ⟨hlen, out.toList, c, vals_strs hs, hg⟩) (by rw [g]; exact I.bare) (fun _ z => nomatch z)
  have e : s' = { s with heap := s'.heap, gens := s'.gens, drawn := s'.drawn, toks := s'.toks } := by
    cases s'
    cases s
    cases o
    rfl
  rw [e]
  exact ⟨.ref p, _, J, rfl, q ys p pm nd so hn⟩
end


end My
namespace My
open PySem PySem.Spec PyProof.Rows L2 TL
/-! ### set(x), x a list of texts -/
section
open PySem.Froz
variable {P : Program} {w : World} {A : Around} {E : Value → Shared → Prop} {s : Shared}
/-- the walk over a tuple or a list puts its texts into the new set -/
theorem set_lst {l : Addr} {items : Array Value} {ks : List Str} {Q : Value → Shared → Prop} (hh : A.handled = none) (hl : s.heap.IsList l items) (hi : StrsAre items.toList ks) (few : ks.length + 1 < scanBound)
    (h : ∀ (h' : Heap) (tk : Nat) L, SetS P w h' s.heap.objs.size L → L.length ≤ ks.length → (∀ x, x ∈ L ↔ x ∈ ks) → (∀ b o, s.heap.get? b = some o → h'.get? b = some o) → Q (.ref s.heap.objs.size) { s with heap := h', toks := tk }) :
    wpAny (model P w) A (call (.type "set") [.ref l]) Q E s := by
  obtain ⟨⟨ocls, odict, odata, oslots⟩, hol, hcl, ⟨nl, hdl⟩⟩ := hl
  simp only at hcl hdl
  subst hcl
  subst hdl
  have hS : (s.heap.push (freshSet w)).get? s.heap.objs.size = some (freshSet w) := Heap.get?_push_size _ rfl
  have hT : Shared.TypeIs { s with heap := s.heap.push (freshSet w) } (.ref s.heap.objs.size) "set" := ⟨_, hS, rfl⟩
  have hol' : (s.heap.push (freshSet w)).get? l = some { cls := .type "list", dict := odict, data := .seq items nl, slots := oslots } := Heap.get?_push_of_some _ hol
  have hl1 : (s.heap.push (freshSet w)).IsList l items := ⟨_, hol', rfl, nl, rfl⟩
  refine set_call (R := fun s2 => ∃ h' tk L, s2 = { s with heap := h', toks := tk } ∧ SetS P w h' s.heap.objs.size L ∧ L.length ≤ ks.length ∧ (∀ x, x ∈ L ↔ x ∈ ks) ∧ ∀ b o, s.heap.get? b = some o → h'.get? b = some o) (.ref l) (codeAny_call_builtin F.called_set.init.plain F.entry_set_init (check_set_init_1 hT ?_)) fun s2 ⟨h', tk, L, e, q1, q2, q3, q4⟩ => by rw [e]; exact h h' tk L q1 q2 q3 q4
  have hsls := F.sub_list_set
  have hslf := F.sub_list_frozenset
  have hne : (Value.type "list" == Value.type "dict") = false := by decide
  unfold Builtin.«set.__init__» noKeywords Builtin.Frozenset.updateFrom
  generalize hPI : pyIter = PI
  wp_walk
  subst hPI
  refine wpAny_pyIter_list hl1 ?_
  refine wpAny_bind (wpAny_runValue ?_)
  have hlS : l < s.heap.objs.size := Heap.lt_size hol
  have sz : (s.heap.push (freshSet w)).objs.size = s.heap.objs.size + 1 := Heap.size_push ..
  obtain ⟨ln, txt⟩ := txt_at hi
  rw [Array.length_toList] at ln
  refine put_texts ((Walks.list (by simp [hh]) _ l (by rw [sz]; exact Nat.ne_of_lt (Nat.lt_succ_of_lt hlS)) items).toS) s.heap.objs.size ?_ ks ln few (fun i v hv => txt i v (by rw [Array.getElem?_toList]; exact hv)) (items.size - 0) 0 _ (by omega) (Nat.zero_le _)
    ⟨⟨_, Heap.get?_push_size _ rfl, rfl, rfl⟩, hl1.push _⟩ ⟨[], Nat.le_refl _, fun x => by rw [List.take_zero], SetS.fresh (Heap.get?_push_of_some _ hS)⟩ fun s' L mv hL mem hS' => ?_
  · rw [sz]
    simp only [List.mem_cons, List.not_mem_nil, or_false, not_or]
    exact ⟨Nat.ne_of_lt (Nat.lt_succ_self _), Nat.ne_of_gt hlS⟩
  · obtain ⟨h', g2, d', tk', os'⟩ := s'
    have eg : g2 = s.gens := mv.gens
    have ed : d' = s.drawn := mv.drawn
    have eo : os' = s.os := mv.os
    subst eg
    subst ed
    subst eo
    show wpAny _ _ _ _ _ _
    refine wpAny_pure ?_
    show wpAny _ _ (ret Value.none) _ _ _
    refine wpAny_pure ⟨rfl, h', tk', L, rfl, hS', by omega, mem, fun b o e => ?_⟩
    have hb : b < s.heap.objs.size := Heap.lt_size e
    refine mv.heap b o ?_ (Heap.get?_push_of_some _ (Heap.get?_push_of_some _ e))
    simp only [List.mem_cons, List.not_mem_nil, or_false, not_or]
    exact ⟨Nat.ne_of_lt hb, by show b ≠ (s.heap.push (freshSet w)).objs.size; rw [sz]; exact Nat.ne_of_lt (Nat.lt_succ_of_lt hb)⟩
end
section
variable {X : Cx}
/-- set(x), x a tuple or a list of texts -/
def rSetE (K : PySem.W.Frag) (P : Program) (w : World) : List V → Hp → VK → Prop := fun xs H Q => ∃ (l : Addr) (ks : List Str), xs = [V.ref l] ∧ (SqT K H l (ks.map V.str) ∨ SqL K H l (ks.map V.str)) ∧ ks.length < 64 ∧
  ∀ a L, H a = none → L.length ≤ ks.length → (∀ x, x ∈ L ↔ x ∈ ks) → Q (.ref a) (upd H a (SetSO P w a L))
theorem cr_setE (hc : X.calm = true) : CallR X (.type "set") (rSetE X.K X.prog X.w) := by
  intro pins s σ H xs us Q I r h
  obtain ⟨l, ks, rfl, hl, hf, q⟩ := h
  rcases hl with hl | hl
  · exact cr_setS hc pins s σ H _ us Q I r ⟨l, ks, rfl, hl, hf, q⟩
  · rw [Vals.ref1 r]
    obtain ⟨its, rv, p, hz⟩ := I.list hl
    refine set_lst (P := X.prog) (w := X.w) (ks := ks) (I.ok.hd hc) p.isList (by simpa using strsAre_of rv) (by unfold scanBound; omega) fun h' tk L R hL mem k => ?_
    exact ⟨.ref s.heap.objs.size, upd H s.heap.objs.size (SetSO X.prog X.w s.heap.objs.size L), I.laid (t' := tk) k (Nat.le_refl _) (setSO_new R), rfl, q _ L (I.hok.fresh (Nat.le_refl _)) hL mem⟩
end


end My
namespace My
open PySem PySem.Spec PyProof.Rows L2 TL
set_option pp.maxSteps 400
set_option pp.deepTerms false
/-! ### the class's smaller methods -/
theorem make_ty {K : PySem.W.Frag} {C : Addr} {H1 : Hp} {p : Addr} {rs : List V} {l : List Ty} {a : Str} {Q : VK} {E : XK} (hp : H1 p = some (.tup rs)) (hl : IsTs C H1 l rs) (fit : (Ty.mk l a).Fits) (q : ∀ x H', Same H1 H' → IsT C H' (.mk l a) (.ref x) → Q (.ref x) H') :
    ∀ x dx, H1 x = none → H1 dx = none → dx ≠ x → sp_Type___init__ K C (.ref x :: ([.ref p, .str a] ++ [])) (upd (upd H1 dx (.own x)) x (.ins C dx [])) (fun v H2 => v = .non ∧ Q (.ref x) H2) E := by
  intro x dx hx hdx ne
  have s : Same H1 (upd (upd H1 dx (.own x)) x (.ins C dx [])) := ((Same.refl H1).new hdx).new (by rw [upd_ne (Ne.symm ne)]; exact hx)
  refine ⟨x, dx, p, rs, l, a, rfl, upd_same, s _ _ hp, IsTs.same s l rs hl, fit, fun q' H' k e1 e2 => ?_⟩
  have s' : Same H1 H' := fun b o hb => k b o (ne_of_none hb hx) (s b o hb)
  refine ⟨rfl, q x H' s' ?_⟩
  rw [IsT]
  exact ⟨x, dx, p, q', rs, rfl, e1, s' _ _ hp, IsTs.same s' l rs hl, e2⟩
/-- what a making method hands out -/
def Made (C : Addr) (H : Hp) (Q : VK) (t : Ty) : Prop := ∀ x H', Same H H' → IsT C H' t (.ref x) → Q (.ref x) H'
def sp_is_integer (K : PySem.W.Frag) : Sp := fun vs H Q _ => ∃ i : Nat, vs = [.int i] ∧ i ≤ 1000 ∧ ∀ H', Same H H' → Q (.bl true) H'
def sp_Type_plain (K : PySem.W.Frag) (C : Addr) : Sp := fun vs H Q _ => ∃ a, vs = [.ref C, .str a] ∧ (Ty.mk [] a).Fits ∧ Made C H Q (.mk [] a)
def sp_Type___rshift__ (K : PySem.W.Frag) (C : Addr) : Sp := fun vs H Q _ => ∃ v u t o, vs = [v, u] ∧ IsT C H t v ∧ IsT C H o u ∧ (Ty.mk (t :: o.ins) o.atom).Fits ∧ Made C H Q (.mk (t :: o.ins) o.atom)
def sp_Type___mod__ (K : PySem.W.Frag) (C : Addr) : Sp := fun vs H Q _ => ∃ v t, ∃ n : Nat, vs = [v, .int n] ∧ IsT C H t v ∧ n ≤ t.ins.length ∧ t.Fits ∧ (Ty.mk (t.ins.drop n) t.atom).Fits ∧ Made C H Q (.mk (t.ins.drop n) t.atom)
def sp_Type___getitem__ (K : PySem.W.Frag) (C : Addr) : Sp := fun vs H Q _ => ∃ v t, ∃ n : Nat, vs = [v, .int n] ∧ IsT C H t v ∧ n < t.ins.length ∧ t.Fits ∧ ∀ s w H', Same H H' → t.ins[n]? = some s → IsT C H' s w → Q w H'
def sp_Type___len__ (K : PySem.W.Frag) (C : Addr) : Sp := fun vs H Q _ => ∃ v t, vs = [v] ∧ IsT C H t v ∧ t.Fits ∧ Q (.int (t.places.length : Nat)) H
def sp_Type___eq__ (K : PySem.W.Frag) (C : Addr) : Sp := fun vs H Q _ => ∃ v u t o, vs = [v, u] ∧ IsT C H t v ∧ IsT C H o u ∧ t.Fits ∧ o.Fits ∧ ∀ H', Same H H' → Q (.bl (decide (t.text = o.text))) H'
/-- the atoms in order -/
def IsAtoms (t : Ty) (ys : List Str) : Prop := ys.Nodup ∧ sortedS ys = true ∧ (∀ x, x ∈ ys ↔ x ∈ t.places) ∧ ys.length ≤ t.places.length
def sp_Type_atoms (K : PySem.W.Frag) (C : Addr) : Sp := fun vs H Q _ => ∃ v t, vs = [v] ∧ IsT C H t v ∧ t.Fits ∧ ∀ p ys H', Same H H' → H' p = some (.tup (ys.map V.str)) → IsAtoms t ys → Q (.ref p) H'
theorem IsTs.app {C : Addr} {H : Hp} : ∀ {l m : List Ty} {rs ss : List V}, IsTs C H l rs → IsTs C H m ss → IsTs C H (l ++ m) (rs ++ ss)
  | [], m, rs, ss, h, k => by
    rw [IsTs] at h
    rw [h]
    exact k
  | t :: r, m, rs, ss, h, k => by
    rw [IsTs] at h
    obtain ⟨w, ws, rfl, h1, h2⟩ := h
    rw [List.cons_append, IsTs]
    exact ⟨w, ws ++ ss, rfl, h1, IsTs.app h2 k⟩
theorem IsTs.drop {C : Addr} {H : Hp} : ∀ (n : Nat) {l : List Ty} {rs : List V}, IsTs C H l rs → IsTs C H (l.drop n) (rs.drop n)
  | 0, _, _, h => h
  | n + 1, [], rs, h => by
    rw [IsTs] at h
    rw [h, List.drop_nil, List.drop_nil, IsTs]
  | n + 1, t :: r, rs, h => by
    rw [IsTs] at h
    obtain ⟨w, ws, rfl, h1, h2⟩ := h
    exact IsTs.drop n h2
theorem IsTs.nil {C : Addr} {H : Hp} : IsTs C H [] [] := by rw [IsTs]
theorem IsTs.cons {C : Addr} {H : Hp} {t : Ty} {l : List Ty} {v : V} {rs : List V} (h : IsT C H t v) (k : IsTs C H l rs) : IsTs C H (t :: l) (v :: rs) := by
  rw [IsTs]
  exact ⟨v, rs, rfl, h, k⟩
theorem IsTs.len_eq {C : Addr} {H : Hp} {l : List Ty} {rs : List V} (h : IsTs C H l rs) : rs.length = l.length := h.len
theorem Fits_ins_len {t : Ty} (f : t.Fits) : t.ins.length ≤ 14 := by
  cases t with
  | mk i a =>
    have n := f.few
    rw [Ty.places, List.length_append] at n
    have := Ty.len_placesL i
    show i.length ≤ 14
    have e : [a].length = 1 := rfl
    omega
theorem cut_drop (xs : List V) (n : Nat) (h : n ≤ xs.length) : cutV xs (some (n : Int)) none = xs.drop n := by
  unfold cutV
  rw [HT.sIx_nat, HT.sIx_none, Nat.min_eq_left h]
  exact List.take_of_length_le (by rw [List.length_drop]; exact Nat.le_refl _)

namespace Ty
theorem mk_eta (t : Ty) : Ty.mk t.ins t.atom = t := by cases t; rfl
theorem places_of (t : Ty) : t.places = placesL t.ins ++ [t.atom] := by
  cases t with
  | mk l b => rw [places]; rfl
end Ty


end My
namespace My
open PySem PySem.Spec PyProof.Rows L2 TL
set_option pp.maxSteps 400
set_option pp.deepTerms false
section
variable {P : Program} {w : World} {K : PySem.W.Frag} {mg : Str → Option Value} {base : Heap} {C_Type : Addr}
theorem ok_Type_plain (T : Txt K mg C_Type C_Library) (i_Type___init__ : MakC P w K mg base C_Type 4 ["self", "inputs", "atom"] (sp_Type___init__ K C_Type)) {f : Addr} {fd : FuncData} (F : Fun K "plain" "Type.plain" s_Type_plain f fd) : FnOk P w K mg base CX0 6 f fd ["cls", "atom"] (sp_Type_plain K C_Type) := by
  have nd := sc_Type_plain.nd
  refine F.ok sc_Type_plain (fun vs H Q E h => ?_) (fun cdv A outer s H vs Q E hr h => ?_)
  · obtain ⟨a, rfl, _⟩ := h
    rfl
  · obtain ⟨a, rfl, fit, q⟩ := h
    refine ⟨_, (pss_one (ps_ret (pe_makeV i_Type___init__ (hr.mono (by first | decide | omega)) (pv 0) (pa_cons (pe_tup pa_nil) (pa_cons (pv 1) pa_nil))))), ?_⟩
    refine ⟨_, rfl, rfl, Nat.zero_le _, fun p hp => ?_⟩
    refine ⟨.str a, rfl, make_ty upd_same IsTs.nil fit fun x H' s h => q x H' (((Same.refl H).new hp).trans s) h⟩
end

/-- == of a type and a type, or anything else -/
def Odd (K : PySem.W.Frag) (C : Addr) (H : Hp) (u : V) : Prop := ∃ t0, TyX K H u t0 ∧ PySem.W.kitOne K t0 (.ref C) = some false
def sp_Type_eqX (K : PySem.W.Frag) (C : Addr) : Sp := fun vs H Q _ => ∃ v u t, vs = [v, u] ∧ IsT C H t v ∧ ((∃ o, IsT C H o u ∧ ∀ H', Same H H' → Q (.bl (decide (t.text = o.text))) H') ∨ (Odd K C H u ∧ ∀ H', Same H H' → Q (.bl false) H'))
section
variable {P : Program} {w : World} {K : PySem.W.Frag} {mg : Str → Option Value} {base : Heap} {C_Type : Addr}
theorem ok_Type___eq__ (T : Txt K mg C_Type C_Library) {f : Addr} {fd : FuncData} (F : Fun K "__eq__" "Type.__eq__" s_Type___eq__ f fd) : FnOk P w K mg base CX0 1 f fd ["self", "other"] (sp_Type_eqX K C_Type) := by
  have nd := sc_Type___eq__.nd
  refine F.ok sc_Type___eq__ (fun vs H Q E h => ?_) (fun cdv A outer s H vs Q E hr h => ?_)
  · obtain ⟨v, u, t, rfl, _⟩ := h
    rfl
  · obtain ⟨v, u, t, rfl, ht, h⟩ := h
    refine ⟨_, (pss_one (ps_ret (pe_and (pe_callB call_isi (by rfl) T.b_isinstance (by decide +kernel) (pa_cons (pv 1) (pa_cons (pe_glob (v := .ref C_Type) rfl T.c_Type rfl) pa_nil))) (pe_one (pe_cmpR op_eq (pe_fld (pv 0) rfl) (pe_fld (pv 1) rfl) (nomark _)))))), ?_⟩
    obtain ⟨b, dx, p, q', rs, rfl, hb, _⟩ := ht.at
    rcases h with ⟨o, ho, q⟩ | ⟨⟨t0, ty, no⟩, q⟩
    · obtain ⟨bo, dxo, po, qo, rso, rfl, hbo, _⟩ := ho.at
      refine ⟨.ref bo, rfl, .ref bo, .ref C_Type, .ref C_Type, .ref C_Type, true, rfl, .own _, ty_of_ins T.k_Type T.x_Type hbo, kit_self _, true, rfl, iteT ?_⟩
      refine ⟨.ref b, rfl, b, C_Type, dx, _, .str t.text, rfl, hb, T.k_Type, T.x_Type.n_text, rfl, .ref bo, rfl, bo, C_Type, dxo, _, .str o.text, rfl, hbo, T.k_Type, T.x_Type.n_text, rfl, ?_⟩
      refine ⟨rfl, ?_⟩
      rw [show decide (V.str t.text = V.str o.text) = decide (t.text = o.text) by rw [Bool.eq_iff_iff]; simp]
      exact q H (Same.refl H)
    · refine ⟨u, rfl, u, .ref C_Type, t0, .ref C_Type, false, rfl, .own _, ty, no, false, rfl, iteF ?_⟩
      exact q H (Same.refl H)
end

section
variable {P : Program} {w : World} {K : PySem.W.Frag} {mg : Str → Option Value} {base : Heap} {C_Type : Addr}
theorem ok_Type_atoms (T : Txt K mg C_Type C_Library) {f : Addr} {fd : FuncData} (F : Fun K "atoms" "Type.atoms" s_Type_atoms f fd) : FnOk P w K mg base CX0 1 f fd ["self"] (sp_Type_atoms K C_Type) := by
  have nd := sc_Type_atoms.nd
  refine F.ok sc_Type_atoms (fun vs H Q E h => ?_) (fun cdv A outer s H vs Q E hr h => ?_)
  · obtain ⟨v, t, rfl, _⟩ := h
    rfl
  · obtain ⟨v, t, rfl, ht, ft, q⟩ := h
    refine ⟨_, (pss_one (ps_ret (pe_callTy call_tuple_of (by rfl) T.b_tuple (by decide +kernel) (pa_cons (pe_callB (cr_sortS rfl) (by rfl) T.b_sorted (by decide +kernel) (pa_cons (pe_callTy (cr_setS rfl) (by rfl) T.b_set (by decide +kernel) (pa_cons (pe_fld (pv 0) rfl) pa_nil)) pa_nil)) pa_nil)))), ?_⟩
    obtain ⟨b, dx, p, q', rs, rfl, hb, hp, hl, hq⟩ := ht.at
    have few := ft.few
    refine ⟨.ref b, rfl, b, C_Type, dx, _, .ref q', rfl, hb, T.k_Type, T.x_Type.n_places, rfl, q', t.places, rfl, SqT.of hq, by omega, fun a L ha hL mem => ?_⟩
    refine ⟨a, L, rfl, upd_same, by omega, fun ys p0 pm nd so hp0 => ?_⟩
    refine ⟨p0, _, rfl, .inl ⟨SqL.of upd_same, fun l hl => ?_⟩⟩
    exact q l ys _ ((((Same.refl H).new ha).new hp0).new hl) upd_same ⟨nd, so, fun x => pm.mem_iff.trans (mem x), by rw [pm.length_eq]; exact hL⟩
end

/-! ### what a list that changes leaves -/
/-- what no list's change touches -/
def Firm : HO → Prop
  | .tup _ => True
  | .ins _ _ fs => fs ≠ []
  | _ => False
def Held (H H' : Hp) : Prop := ∀ b o, H b = some o → Firm o → H' b = some o
mutual
theorem IsT.held {C : Addr} {H H' : Hp} (s : Held H H') : ∀ (t : Ty) (v : V), IsT C H t v → IsT C H' t v
  | .mk i a, v, h => by
    rw [IsT] at h ⊢
    obtain ⟨x, dx, p, q, rs, e, hx, hp, hi, hq⟩ := h
    exact ⟨x, dx, p, q, rs, e, s _ _ hx (fun z => nomatch z), s _ _ hp trivial, IsTs.held s i rs hi, s _ _ hq trivial⟩
theorem IsTs.held {C : Addr} {H H' : Hp} (s : Held H H') : ∀ (l : List Ty) (rs : List V), IsTs C H l rs → IsTs C H' l rs
  | [], rs, h => by
    rw [IsTs] at h ⊢
    exact h
  | t :: r, rs, h => by
    rw [IsTs] at h ⊢
    obtain ⟨v, vs, e, h1, h2⟩ := h
    exact ⟨v, vs, e, IsT.held s t v h1, IsTs.held s r vs h2⟩
end
theorem held_lst {H : Hp} {D : Addr} {xs : List V} {o : HO} (h : H D = some (.lst xs)) : Held H (upd H D o) := fun b u hb f => by
  rw [upd_ne (ne_of hb h (fun e => by rw [e] at f; exact f))]
  exact hb
theorem _root_.L2.Same.held {H H' : Hp} (s : Same H H') : Held H H' := fun b o h _ => s b o h

def Wd (a : Str) : Prop := isW (.str a) = true ∧ ∀ c ∈ a.cps.toList, c < 128

/-! ### renaming -/
/-- the dict of names at d: from words to words -/
def IsN (H : Hp) (d : Addr) (ws : List (Str × Str)) : Prop := H d = some (.dK (ws.map fun p => ((Sum.inr p.1 : Key), V.str p.2)))
def look (ws : List (Str × Str)) (x : Str) : Option Str := (ws.find? fun p => decide (p.1 = x)).map (·.2)
theorem valV_look (x : Str) : ∀ ws : List (Str × Str), valV (ws.map fun p => ((Sum.inr p.1 : Key), V.str p.2)) (Sum.inr x) = (look ws x).map V.str
  | [] => rfl
  | (k, v) :: r => by
    rw [List.map_cons]
    by_cases e : k = x
    · rw [valV_pos (by rw [e]), look, List.find?_cons_of_pos (by simpa using e)]
      rfl
    · rw [valV_neg (fun z => e (Sum.inr.inj z)), valV_look x r, look, look, List.find?_cons_of_neg (by simpa using e)]
namespace Ty
mutual
def ren (f : Str → Str) : Ty → Ty
  | .mk l b => .mk (renL f l) (f b)
def renL (f : Str → Str) : List Ty → List Ty
  | [] => []
  | t :: r => ren f t :: renL f r
end
theorem renL_map (f : Str → Str) : ∀ l : List Ty, renL f l = l.map (ren f)
  | [] => by rw [renL]; rfl
  | t :: r => by rw [renL, renL_map f r]; rfl
theorem ren_eq (f : Str → Str) (t : Ty) : ren f t = .mk (t.ins.map (ren f)) (f t.atom) := by
  cases t with
  | mk l b =>
    rw [ren, renL_map]
    rfl
mutual
theorem places_ren (f : Str → Str) : ∀ t : Ty, (ren f t).places = t.places.map f
  | .mk l b => by
    rw [ren, places, places, List.map_append, places_renL f l]
    rfl
theorem places_renL (f : Str → Str) : ∀ l : List Ty, placesL (renL f l) = (placesL l).map f
  | [] => by rw [renL, placesL_nil]; rfl
  | t :: r => by rw [renL, placesL_cons, placesL_cons, List.map_append, places_ren f t, places_renL f r]
end
mutual
theorem order_ren (f : Str → Str) : ∀ t : Ty, (ren f t).order = t.order
  | .mk l b => by
    rw [ren, order, order, order_renL f l]
theorem order_renL (f : Str → Str) : ∀ l : List Ty, orderL (renL f l) = orderL l
  | [] => by rw [renL]
  | t :: r => by rw [renL, orderL, orderL, order_ren f t, order_renL f r]
end
mutual
theorem ren_congr {f g : Str → Str} : ∀ t : Ty, (∀ x ∈ t.places, f x = g x) → ren f t = ren g t
  | .mk l b, h => by
    rw [places] at h
    rw [ren, ren, ren_congrL l fun x hx => h x (List.mem_append_left _ hx), h b (List.mem_append_right _ (List.mem_singleton.mpr rfl))]
theorem ren_congrL {f g : Str → Str} : ∀ l : List Ty, (∀ x ∈ placesL l, f x = g x) → renL f l = renL g l
  | [], _ => by rw [renL, renL]
  | t :: r, h => by
    rw [placesL_cons] at h
    rw [renL, renL, ren_congr t fun x hx => h x (List.mem_append_left _ hx), ren_congrL r fun x hx => h x (List.mem_append_right _ hx)]
end
theorem places_sub {l : List Ty} {t : Ty} (h : t ∈ l) : ∀ x ∈ t.places, x ∈ placesL l := by
  induction l with
  | nil => cases h
  | cons u r ih =>
    intro x hx
    rw [placesL_cons]
    rcases List.mem_cons.mp h with rfl | h
    · exact List.mem_append_left _ hx
    · exact List.mem_append_right _ (ih h x hx)
end Ty
/-- a word, of plain signs -/
theorem fits_ren {f : Str → Str} {t : Ty} (h : t.Fits) (w : ∀ x ∈ t.places, Wd (f x)) : (Ty.ren f t).Fits :=
  ⟨fun a ha => by
    rw [Ty.places_ren] at ha
    obtain ⟨x, hx, e⟩ := List.mem_map.mp ha
    rw [← e]
    exact w x hx, by rw [Ty.places_ren, List.length_map]; exact h.few, by rw [Ty.order_ren]; exact h.low⟩
theorem IsAtoms.len {t : Ty} {ys zs : List Str} (h : IsAtoms t ys) (k : IsAtoms t zs) : ys.length = zs.length :=
  ((List.perm_ext_iff_of_nodup h.1 k.1).mpr fun x => (h.2.2.1 x).trans (k.2.2.1 x).symm).length_eq
theorem look_out {f : Str → Str} {x : Str} : ∀ l : List Str, x ∉ l → look (l.map fun z => (z, f z)) x = none
  | [], _ => rfl
  | z :: r, h => by
    rw [List.map_cons, look, List.find?_cons_of_neg (by simpa using fun e : z = x => h (e ▸ List.mem_cons_self ..))]
    exact look_out r fun k => h (List.mem_cons_of_mem _ k)
theorem look_in {f : Str → Str} {x : Str} : ∀ l : List Str, x ∈ l → look (l.map fun z => (z, f z)) x = some (f x)
  | [], h => by cases h
  | z :: r, h => by
    by_cases e : z = x
    · rw [List.map_cons, look, List.find?_cons_of_pos (by simpa using e), ← e]
      rfl
    · rw [List.map_cons, look, List.find?_cons_of_neg (by simpa using e)]
      exact look_in r ((List.mem_cons.mp h).resolve_left fun k => e k.symm)
theorem IsN.get {H : Hp} {d : Addr} {ws : List (Str × Str)} {x y : Str} (h : IsN H d ws) (e : look ws x = some y) : DGet H d (.str x) (some (.str y)) := by
  have g := DGet.k (k := Sum.inr x) h
  rw [valV_look, e] at g
  exact g


end My
namespace My
open PySem PySem.Spec PyProof.Rows L2 TL
/-! ### comprehensions over a dict that is locked meanwhile -/
theorem lc_keys {d : Addr} {o : Obj} {kvs : List (Key × V)} {g : TG} {tt : TT} {te : TE} {vs : List Nat} {σ : L2.St} {H1 : Hp} {D : Addr} {Qd : Hp → Prop} (Pv : Nat → Hp → Prop) (h0 : Pv 0 (upd H1 D (.lst []))) (hl : ∀ i H, i ≤ kvs.length → Pv i H → H d = some (.frz o (.dK kvs)))
    (hs : ∀ i k v H, kvs[i]? = some (k, v) → Pv i H → g (kV k) (wipe σ vs) H fun σ2 H2 => wipe σ2 vs = wipe σ vs ∧ tt σ2 H2 fun b H3 =>
      if b = true then te σ2 H3 fun y H4 => ∃ acc, H4 D = some (.lst acc) ∧ acc.length < sizeLine ∧ Pv (i + 1) (upd H4 D (.lst (acc ++ [y]))) else Pv (i + 1) H3) (hd : ∀ H, Pv kvs.length H → Qd H) :
    ∃ W : Nat → Nat → Hp → Prop, (∃ m, W 0 m (upd H1 D (.lst []))) ∧ ∀ i m H, W i m H →
      ((Itk d o kvs).stop i H ∧ Qd H) ∨ ((Itk d o kvs).go i H ∧ ∃ Nx : Hp → Prop, (∀ H', Nx H' → ∃ m', m' < m ∧ W (i + 1) m' H') ∧ ∀ v H', (Itk d o kvs).yld i H v H' → g v (wipe σ vs) H' fun σ2 H2 => wipe σ2 vs = wipe σ vs ∧ tt σ2 H2 fun b H3 =>
        if b = true then te σ2 H3 fun y H4 => ∃ acc, H4 D = some (.lst acc) ∧ acc.length < sizeLine ∧ Nx (upd H4 D (.lst (acc ++ [y]))) else Nx H3) := by
  refine ⟨fun i m H => m = kvs.length - i ∧ i ≤ kvs.length ∧ Pv i H, ⟨kvs.length, by simp, Nat.zero_le _, h0⟩, ?_⟩
  rintro i m H ⟨rfl, hi, p⟩
  by_cases hlt : i < kvs.length
  · refine .inr ⟨⟨hl i H hi p, hlt⟩, Pv (i + 1), fun H' p' => ⟨kvs.length - (i + 1), by omega, rfl, hlt, p'⟩, fun x H' y => ?_⟩
    obtain ⟨e, k, v, ek, rfl⟩ := y
    subst e
    exact hs i k v _ ek p
  · have e : i = kvs.length := by omega
    exact .inl ⟨⟨hl i H hi p, by omega⟩, hd H (by rw [e] at p; exact p)⟩
theorem lc_vals {d : Addr} {o : Obj} {kvs : List (Key × V)} {g : TG} {tt : TT} {te : TE} {vs : List Nat} {σ : L2.St} {H1 : Hp} {D : Addr} {Qd : Hp → Prop} (Pv : Nat → Hp → Prop) (h0 : Pv 0 (upd H1 D (.lst []))) (hl : ∀ i H, i ≤ kvs.length → Pv i H → H d = some (.frz o (.dK kvs)))
    (hs : ∀ i k v H, kvs[i]? = some (k, v) → Pv i H → g (v) (wipe σ vs) H fun σ2 H2 => wipe σ2 vs = wipe σ vs ∧ tt σ2 H2 fun b H3 =>
      if b = true then te σ2 H3 fun y H4 => ∃ acc, H4 D = some (.lst acc) ∧ acc.length < sizeLine ∧ Pv (i + 1) (upd H4 D (.lst (acc ++ [y]))) else Pv (i + 1) H3) (hd : ∀ H, Pv kvs.length H → Qd H) :
    ∃ W : Nat → Nat → Hp → Prop, (∃ m, W 0 m (upd H1 D (.lst []))) ∧ ∀ i m H, W i m H →
      ((Itd d o kvs).stop i H ∧ Qd H) ∨ ((Itd d o kvs).go i H ∧ ∃ Nx : Hp → Prop, (∀ H', Nx H' → ∃ m', m' < m ∧ W (i + 1) m' H') ∧ ∀ v H', (Itd d o kvs).yld i H v H' → g v (wipe σ vs) H' fun σ2 H2 => wipe σ2 vs = wipe σ vs ∧ tt σ2 H2 fun b H3 =>
        if b = true then te σ2 H3 fun y H4 => ∃ acc, H4 D = some (.lst acc) ∧ acc.length < sizeLine ∧ Nx (upd H4 D (.lst (acc ++ [y]))) else Nx H3) := by
  refine ⟨fun i m H => m = kvs.length - i ∧ i ≤ kvs.length ∧ Pv i H, ⟨kvs.length, by simp, Nat.zero_le _, h0⟩, ?_⟩
  rintro i m H ⟨rfl, hi, p⟩
  by_cases hlt : i < kvs.length
  · refine .inr ⟨⟨hl i H hi p, hlt⟩, Pv (i + 1), fun H' p' => ⟨kvs.length - (i + 1), by omega, rfl, hlt, p'⟩, fun x H' y => ?_⟩
    obtain ⟨e, k, ek⟩ := y
    subst e
    exact hs i k x _ ek p
  · have e : i = kvs.length := by omega
    exact .inl ⟨⟨hl i H hi p, by omega⟩, hd H (by rw [e] at p; exact p)⟩

section
variable {X : Cx}
theorem ps_setLc2D {i : Nat} {y : Str} {py : Pos} {elt tg iter tg1 iter1 : Expr} {ifs ifs1 : List Expr} {scope : Scope} {own : List (Str × Nat)} {vs1 : List Nat} {pos spos : Pos} {wi : TI} {wi1 : Dep TI} {g g1 : Dep TG} {tt tt1 : Dep TT} {te : Dep TE} (hc : X.calm = true) (hN : X.N.Nodup) (hy : X.N[i]? = some y) (hyl : X.env.scope.names.lookup y = some .local)
    (hsw : swapsWith (.ListComp elt [⟨tg, iter, ifs, 0⟩, ⟨tg1, iter1, ifs1, 0⟩] scope pos) (some (.Name y py)) spos.line X.env = pure true) (hi : PI X tg iter wi) (ok : BlkOk X.N X.env.scope scope own) (hv : ∀ i ∈ vs1, i ∈ own.map (·.2))
    (hg : ∀ (s : Shared) (H : Hp) (C : Addr) (cl : List (Str × Addr)) (fp : List Addr), PG (X.blk s H scope (compEnvC scope cl C X.env) fp) tg (g s H C cl fp)) (ht : ∀ (s : Shared) (H : Hp) (C : Addr) (cl : List (Str × Addr)) (fp : List Addr), PTs (X.blk s H scope (compEnvC scope cl C X.env) fp) ifs (tt s H C cl fp))
    (hi1 : ∀ (s : Shared) (H : Hp) (C : Addr) (cl : List (Str × Addr)) (fp : List Addr), PI (X.blk s H scope (compEnvC scope cl C X.env) fp) tg1 iter1 (wi1 s H C cl fp))
    (hg1 : ∀ (s : Shared) (H : Hp) (C : Addr) (cl : List (Str × Addr)) (fp : List Addr), PG (X.blk s H scope (compEnvC scope cl C X.env) fp) tg1 (g1 s H C cl fp)) (ht1 : ∀ (s : Shared) (H : Hp) (C : Addr) (cl : List (Str × Addr)) (fp : List Addr), PTs (X.blk s H scope (compEnvC scope cl C X.env) fp) ifs1 (tt1 s H C cl fp))
    (he : ∀ (s : Shared) (H : Hp) (C : Addr) (cl : List (Str × Addr)) (fp : List Addr), PE (X.blk s H scope (compEnvC scope cl C X.env) fp) elt (te s H C cl fp)) (hs : ∀ x, foldedSetIterable iter X.env x = pure x := by intro _; rfl) (hs1 : ∀ env x, foldedSetIterable iter1 env x = pure x := by intro _ _; rfl)
    (eg : ∀ s H C cl fp, g s H C cl fp = g.at X := by intros; rfl) (et : ∀ s H C cl fp, tt s H C cl fp = tt.at X := by intros; rfl) (ei : ∀ s H C cl fp, wi1 s H C cl fp = wi1.at X := by intros; rfl) (eg1 : ∀ s H C cl fp, g1 s H C cl fp = g1.at X := by intros; rfl) (et1 : ∀ s H C cl fp, tt1 s H C cl fp = tt1.at X := by intros; rfl)
    (ee : ∀ s H C cl fp, te s H C cl fp = te.at X := by intros; rfl) :
    PS X (.Assign [.Name y py] (.ListComp elt [⟨tg, iter, ifs, 0⟩, ⟨tg1, iter1, ifs1, 0⟩] scope pos) spos) (tAsg (tLc2 wi (g.at X) (tt.at X) (wi1.at X) (g1.at X) (tt1.at X) (te.at X) (own.map (·.2)) vs1) (gName i)) :=
  ps_setLc2 hc hN hy hyl hsw hi ok hv (fun s H C cl fp => eg s H C cl fp ▸ hg s H C cl fp) (fun s H C cl fp => et s H C cl fp ▸ ht s H C cl fp) (fun s H C cl fp => ei s H C cl fp ▸ hi1 s H C cl fp) (fun s H C cl fp => eg1 s H C cl fp ▸ hg1 s H C cl fp) (fun s H C cl fp => et1 s H C cl fp ▸ ht1 s H C cl fp)
    (fun s H C cl fp => ee s H C cl fp ▸ he s H C cl fp) hs hs1
end


end My
namespace My
open PySem PySem.Spec PyProof.Rows L2 TL
/-! ### tuple(d) of a dict: its keys -/
section
variable {prog : Program} {w : World} {A : Around} {E : Value → Shared → Prop} {s : Shared} {r d : Addr} {n : Nat} {Pk : Nat → Value → Prop} {OK : Heap → Prop}
theorem code_tuple_new_kdl {Q₁ : Value → Shared → Prop} (S : PySem.W.KdlSrc prog w "dict" r d n Pk OK) (hh : A.handled = none) (hok : OK s.heap) (hlen : n ≤ sizeLine)
    (h : ∀ (h' : Heap) (tk : Nat) (acc : Array Value), (∀ b o, s.heap.get? b = some o → h'.get? b = some o) → ItemsOf Pk acc n →
      Q₁ (.ref h'.objs.size) { s with heap := h'.push { cls := .type "tuple", data := .seq acc }, toks := tk }) :
    codeAny (model prog w) A (.call (.builtin "tuple.__new__") ⟨[.type "tuple", .ref r], []⟩) (wants Q₁ E) s := by
  refine codeAny_of_tree ?_
  show wpAny _ A.in1 (do checkBuiltinCall "tuple.__new__" ⟨[.type "tuple", .ref r], []⟩; again (.builtin "tuple.__new__" ⟨[.type "tuple", .ref r], []⟩)) _ _ s
  refine wpAny_bind (wpAny_of_eq (F.newCall_tuple_1 _) (wpAny_pure ⟨plainId_quiet F.plain_tuple_new _, codeAny_builtin F.entry_tuple_new ?_⟩))
  rw [Around.under_plainId F.plain_tuple_new _]
  have hsub := sub_tuple_self
  have hinit := init_tuple_lookup
  have hmh := madeHere_tuple
  have hTI : s.TypeIs (.ref r) "dict" := S.type s hok
  have hh1 : A.in1.handled = none := hh
  wp_walk using wpAny_typeOf hTI, PySem.W.kdu_collect (A := A.in1) S hh1 hok hlen
  intro h' tk acc hk hacc
  show wpAny _ _ (Builtin.Tuple.tupleExact acc.toList.toArray >>= fun v => ret v) _ _ _
  unfold Builtin.Tuple.tupleExact
  refine wpAny_bind (wpAny_newObj_type ?_ (by show acc.toList.toArray.size ≤ sizeLine; simp only [Array.toArray_toList]; rw [hacc.1]; exact hlen))
  refine wpAny_pure ?_
  have e : acc.toList.toArray = acc := by simp
  rw [e]
  exact h h' tk acc hk hacc
theorem call_tuple_kdl {Q : Value → Shared → Prop} (S : PySem.W.KdlSrc prog w "dict" r d n Pk OK) (hh : A.handled = none) (hok : OK s.heap) (hlen : n ≤ sizeLine)
    (hQ : ∀ (h' : Heap) (tk : Nat) (acc : Array Value), (∀ b o, s.heap.get? b = some o → h'.get? b = some o) → ItemsOf Pk acc n →
      Q (.ref h'.objs.size) { s with heap := h'.push { cls := .type "tuple", data := .seq acc }, toks := tk }) :
    wpAny (model prog w) A (call (.type "tuple") [.ref r]) Q E s := by
  refine callType_codes (Q₁ := fun obj s₁ => s₁.TypeIs obj "tuple" ∧ Q obj s₁) F.called_tuple (F.typeCall_tuple_1 _) F.entry_object_init
    (code_tuple_new_kdl (A := A.in1) S hh hok hlen fun h' tk acc hk hacc => ⟨⟨_, Heap.get?_push_size _ rfl, rfl⟩, hQ h' tk acc hk hacc⟩) fun obj s₁ h₁ => ?_
  exact ⟨h₁.1, F.args_object_init_2 obj _, object_init_meets F.called_tuple.init.lookup F.called_tuple.made (by decide) prog w A.in1 _ s₁ ⟨h₁.1, rfl, h₁.2⟩⟩
end
section
variable {X : Cx}
theorem call_tupleD (hcalm : X.calm = true) : CallR X (.type "tuple") (fun xs H Q => ∃ (a : Addr) (kvs : List (Key × V)), xs = [.ref a] ∧ Rd H a (.dK kvs) ∧ ∀ p, H p = none → Q (.ref p) (upd H p (.tup (kvs.map fun kv => kV kv.1)))) := by
  intro pins s σ H xs us Q I r q
  obtain ⟨a, kvs, ex, hd, q⟩ := q
  subst ex
  obtain ⟨u, eu, rx⟩ := vals1 r
  subst eu
  cases rx
  obtain ⟨z, lo, vs, rel, dd⟩ := dk_rd I.hok hd
  obtain ⟨ep, hat⟩ := dd.dictAt
  have ek : (kvs.map fun kv => kV kv.1) = vs.map fun p => kV p.1 := by
    have e := congrArg (List.map kV) rel.keys
    rw [List.map_map, List.map_map] at e
    exact e
  refine call_tuple_kdl (PySem.W.kdl_dict (knd := mixKind X.prog X.w) (kvs := vs) (ep := ep) lo) (I.ok.hd hcalm) hat (by rw [← rel.length]; exact z) fun h' tk acc hk hacc => ?_
  have hv : Vals (vs.map fun p => kV p.1) acc.toList := keys_at (by rw [Array.length_toList]; exact hacc.1) fun j v e => hacc.2 j v (by rw [← Array.getElem?_toList]; exact e)
  have I1 : Inv X pins σ H { s with heap := h', toks := tk } := I.kept hk
  have I2 : Inv X pins σ (upd H h'.objs.size (.tup (kvs.map fun kv => kV kv.1))) { s with heap := h'.push { cls := .type "tuple", data := .seq acc }, toks := tk } :=
    I1.laid (t' := tk) (fun b o e => Heap.get?_push_of_some _ e) (Nat.le_refl _) (show ObjOk X.prog X.w _ _ _ (.tup (kvs.map fun kv => kV kv.1)) from ⟨by rw [List.length_map]; exact z, acc.toList, by rw [ek]; exact hv, by
      rw [show acc.toList.toArray = acc by simp]
      exact IsTup.new h' acc⟩)
  exact ⟨.ref h'.objs.size, _, I2, rfl, q _ (I1.hok.fresh (Nat.le_refl _))⟩
end


end My
namespace My
open PySem PySem.Spec PyProof.Rows L2 TL
/-! ### texts of types are of small signs -/
namespace Ty
theorem mem_placesL' {x : Str} : ∀ l : List Ty, x ∈ placesL l ↔ ∃ t ∈ l, x ∈ t.places
  | [] => by rw [placesL_nil]; simp
  | t :: r => by rw [placesL_cons, List.mem_append, mem_placesL' r]; simp
end Ty
theorem eqv_strs : ∀ l : List Str, PyData.eqvAll (l.map PyData.str) (l.map PyData.str) = true
  | [] => by simp [PyData.eqvAll]
  | x :: r => by
    rw [List.map_cons, PyData.eqvAll, eqv_strs r]
    simp [PyData.eqv]
theorem dp_textsN {K : PySem.W.Frag} {H : Hp} : ∀ l : List Str, DpAll K H (l.map V.str) (l.map PyData.str)
  | [] => .nil
  | x :: r => .cons (.str x) (dp_textsN r)
theorem mem_joinL {c : Nat} {S : List Nat} : ∀ ps : List (List Nat), c ∈ joinL S ps → c ∈ S ∨ ∃ p ∈ ps, c ∈ p
  | [], h => by simp [joinL] at h
  | [p], h => .inr ⟨p, List.mem_singleton.mpr rfl, by simpa [joinL] using h⟩
  | p :: q :: r, h => by
    have h : c ∈ p ++ S ++ joinL S (q :: r) := by simpa [joinL] using h
    rcases List.mem_append.mp h with h | h
    · rcases List.mem_append.mp h with h | h
      · exact .inr ⟨p, List.mem_cons_self .., h⟩
      · exact .inl h
    · rcases mem_joinL (q :: r) h with h | ⟨x, hx, h⟩
      · exact .inl h
      · exact .inr ⟨x, List.mem_cons_of_mem _ hx, h⟩
namespace Ty
theorem arr_ascii : ∀ c ∈ tl (" -> " : Str), c < 128 := by decide +kernel
theorem par_ascii : (∀ c ∈ tl ("(" : Str), c < 128) ∧ ∀ c ∈ tl (")" : Str), c < 128 := by decide +kernel
theorem inside_ascii {t : Ty} (h : ∀ c ∈ tl t.text, c < 128) : ∀ c ∈ tl t.inside, c < 128 := by
  unfold inside
  split
  · exact h
  · intro c hc
    rw [tl_append, tl_append] at hc
    rcases List.mem_append.mp hc with hc | hc
    · rcases List.mem_append.mp hc with hc | hc
      · exact par_ascii.1 c hc
      · exact h c hc
    · exact par_ascii.2 c hc
theorem text_ascii : ∀ (n : Nat) (t : Ty), t.places.length ≤ n → (∀ a ∈ t.places, ∀ c ∈ tl a, c < 128) → ∀ c ∈ tl t.text, c < 128
  | 0, t, h, _ => absurd (places_pos t) (by omega)
  | n + 1, .mk i a, h, ha => by
    rw [text, join_eq, tl_join]
    intro c hc
    have l2 : (Ty.mk i a).places.length = (placesL i).length + 1 := by rw [places, List.length_append]; rfl
    rcases mem_joinL _ hc with hc | ⟨p, hp, hc⟩
    · exact arr_ascii c hc
    · obtain ⟨x, hx, rfl⟩ := List.mem_map.mp hp
      rcases List.mem_append.mp hx with hx | hx
      · rw [insideL_map] at hx
        obtain ⟨u, hu, rfl⟩ := List.mem_map.mp hx
        refine inside_ascii (text_ascii n u (by have := few_ins hu; omega) fun b hb => ha b ?_) c hc
        rw [places]
        exact List.mem_append_left _ ((mem_placesL' i).mpr ⟨u, hu, hb⟩)
      · rw [List.mem_singleton.mp hx] at hc
        exact ha a (by rw [places]; exact List.mem_append_right _ (List.mem_singleton.mpr rfl)) c hc
end Ty
theorem Ty.Fits.ascii {t : Ty} (f : t.Fits) : PyData.strOk t.text = true := strOk_ascii (Ty.text_ascii _ t (Nat.le_refl _) fun a ha => (f.words a ha).2)
theorem shaped_strs {l : List Str} (h : ∀ x ∈ l, PyData.strOk x = true) : SeqAt.shaped (.list (l.map PyData.str)) = true ∧ SeqAt.shaped (.tuple (l.map PyData.str)) = true :=
  shaped_flat fun d hd => by
    obtain ⟨x, hx, rfl⟩ := List.mem_map.mp hd
    exact ⟨by rw [PyData.canLay0]; exact h x hx, rfl⟩


end My
namespace My
open PySem PySem.Spec PyProof.Rows L2 TL
/-! ### a dict comprehension whose parts speak of the place where they stand -/
section
variable {X : Cx}
theorem pe_dcD {kx vx tg iter : Expr} {ifs : List Expr} {scope : Scope} {own : List (Str × Nat)} {pos : Pos} {wi : TI} {g : Dep TG} {tt : Dep TT} {tk tv : Dep TE} (hc : X.calm = true) (hN : X.N.Nodup) (hi : PI X tg iter wi) (ok : BlkOk X.N X.env.scope scope own)
    (hg : ∀ (s : Shared) (H : Hp) (C : Addr) (cl : List (Str × Addr)) (fp : List Addr), PG (X.blk s H scope (compEnvC scope cl C X.env) fp) tg (g s H C cl fp)) (ht : ∀ (s : Shared) (H : Hp) (C : Addr) (cl : List (Str × Addr)) (fp : List Addr), PTs (X.blk s H scope (compEnvC scope cl C X.env) fp) ifs (tt s H C cl fp))
    (hk : ∀ (s : Shared) (H : Hp) (C : Addr) (cl : List (Str × Addr)) (fp : List Addr), PE (X.blk s H scope (compEnvC scope cl C X.env) fp) kx (tk s H C cl fp))
    (he : ∀ (s : Shared) (H : Hp) (C : Addr) (cl : List (Str × Addr)) (fp : List Addr), PE (X.blk s H scope (compEnvC scope cl C X.env) fp) vx (tv s H C cl fp)) (hs : ∀ x, foldedSetIterable iter X.env x = pure x := by intro _; rfl)
    (eg : ∀ s H C cl fp, g s H C cl fp = g.at X := by intros; rfl) (et : ∀ s H C cl fp, tt s H C cl fp = tt.at X := by intros; rfl) (ek : ∀ s H C cl fp, tk s H C cl fp = tk.at X := by intros; rfl) (ev : ∀ s H C cl fp, tv s H C cl fp = tv.at X := by intros; rfl) :
    PE X (.DictComp kx vx [⟨tg, iter, ifs, 0⟩] scope pos) (tDc wi (g.at X) (tt.at X) (tk.at X) (tv.at X) (own.map (·.2))) :=
  pe_dc hc hN hi ok (fun s H C cl fp => eg s H C cl fp ▸ hg s H C cl fp) (fun s H C cl fp => et s H C cl fp ▸ ht s H C cl fp) (fun s H C cl fp => ek s H C cl fp ▸ hk s H C cl fp) (fun s H C cl fp => ev s H C cl fp ▸ he s H C cl fp) hs
end

/-! ### plain libraries -/
abbrev Lib := List (Str × Ty)
def Lib.names (L : Lib) : List Str := L.map (·.1)
def Lib.line (e : Str × Ty) : Str := Str.empty ++ e.1 ++ (" : " : Str) ++ e.2.text
def Lib.lines (L : Lib) : List Str := L.map Lib.line
structure Lib.Fine (L : Lib) : Prop where
  words : ∀ e ∈ L, Wd e.1
  fits : ∀ e ∈ L, e.2.Fits
  few : L.length ≤ 8
  nodup : L.names.Nodup
/-- a dict of names to types -/
def IsP (C : Addr) (H : Hp) : Lib → List (Key × V) → Prop
  | [], kvs => kvs = []
  | e :: r, kvs => ∃ v ks, kvs = ((Sum.inr e.1 : Key), v) :: ks ∧ IsT C H e.2 v ∧ IsP C H r ks
def IsL (C D : Addr) (H : Hp) (L : Lib) (v : V) : Prop := ∃ x dx d p q kvs, v = .ref x ∧ H x = some (.ins D dx [("_parts", .ref d), ("_names", .ref p), ("_lines", .ref q)]) ∧
  H d = some (.dK kvs) ∧ IsP C H L kvs ∧ H p = some (.tup (L.names.map V.str)) ∧ H q = some (.tup (L.lines.map V.str))
/-- what lists' changes leave, dicts too -/
def FirmD : HO → Prop
  | .tup _ => True
  | .dK _ => True
  | .ins _ _ fs => fs ≠ []
  | _ => False
def HeldD (H H' : Hp) : Prop := ∀ b o, H b = some o → FirmD o → H' b = some o
theorem HeldD.held {H H' : Hp} (s : HeldD H H') : Held H H' := fun b o h f => s b o h (by cases o <;> first | exact f | exact trivial | exact absurd f id)
theorem heldD_lst {H : Hp} {D : Addr} {xs : List V} {o : HO} (h : H D = some (.lst xs)) : HeldD H (upd H D o) := fun b u hb f => by
  rw [upd_ne (ne_of hb h (fun e => by rw [e] at f; exact f))]
  exact hb
theorem _root_.L2.Same.heldD {H H' : Hp} (s : Same H H') : HeldD H H' := fun b o h _ => s b o h
theorem HeldD.trans {H H1 H2 : Hp} (a : HeldD H H1) (b : HeldD H1 H2) : HeldD H H2 := fun x o h f => b x o (a x o h f) f
theorem held_dk {H : Hp} {D : Addr} {xs : List (Key × V)} {o : HO} (h : H D = some (.dK xs)) : Held H (upd H D o) := fun b u hb f => by
  rw [upd_ne (ne_of hb h (fun e => by rw [e] at f; exact f))]
  exact hb
theorem IsP.held {C : Addr} {H H' : Hp} (s : Held H H') : ∀ {L : Lib} {kvs : List (Key × V)}, IsP C H L kvs → IsP C H' L kvs
  | [], _, h => h
  | e :: r, kvs, h => by
    obtain ⟨v, ks, e1, h1, h2⟩ := h
    exact ⟨v, ks, e1, IsT.held s _ _ h1, IsP.held s h2⟩
theorem IsL.heldD {C D : Addr} {H H' : Hp} (s : HeldD H H') {L : Lib} {v : V} (h : IsL C D H L v) : IsL C D H' L v := by
  obtain ⟨x, dx, d, p, q, kvs, e, hx, hd, hp, h1, h2⟩ := h
  exact ⟨x, dx, d, p, q, kvs, e, s _ _ hx (fun z => nomatch z), s _ _ hd trivial, hp.held s.held, s _ _ h1 trivial, s _ _ h2 trivial⟩
theorem IsL.same {C D : Addr} {H H' : Hp} (s : Same H H') {L : Lib} {v : V} (h : IsL C D H L v) : IsL C D H' L v := h.heldD s.heldD
theorem IsP.keys {C : Addr} {H : Hp} : ∀ {L : Lib} {kvs : List (Key × V)}, IsP C H L kvs → kvs.map (·.1) = L.names.map Sum.inr
  | [], _, h => by rw [show _ = _ from h]; rfl
  | e :: r, kvs, h => by
    obtain ⟨v, ks, rfl, h1, h2⟩ := h
    rw [List.map_cons, h2.keys]
    rfl
theorem IsP.len {C : Addr} {H : Hp} {L : Lib} {kvs : List (Key × V)} (h : IsP C H L kvs) : kvs.length = L.length := by
  have e := congrArg List.length h.keys
  rw [List.length_map, List.length_map, Lib.names, List.length_map] at e
  exact e
theorem IsP.at_ {C : Addr} {H : Hp} : ∀ {L : Lib} {kvs : List (Key × V)} {i : Nat} {k : Key} {v : V}, IsP C H L kvs → kvs[i]? = some (k, v) → ∃ e, L[i]? = some e ∧ k = Sum.inr e.1 ∧ IsT C H e.2 v
  | [], _, i, k, v, h, z => by
    rw [show _ = _ from h] at z
    cases z
  | e :: r, kvs, i, k, v, h, z => by
    obtain ⟨v', ks, rfl, h1, h2⟩ := h
    cases i with
    | zero => cases z; exact ⟨e, rfl, rfl, h1⟩
    | succ i => exact IsP.at_ (L := r) (i := i) h2 z
/-- the type of a name -/
def Lib.get (L : Lib) (n : Str) : Option Ty := (L.find? fun e => decide (e.1 = n)).map (·.2)
theorem IsP.get {C : Addr} {H : Hp} {n : Str} : ∀ {L : Lib} {kvs : List (Key × V)}, IsP C H L kvs → (L.get n = none ∧ valV kvs (Sum.inr n) = none) ∨ ∃ t v, L.get n = some t ∧ valV kvs (Sum.inr n) = some v ∧ IsT C H t v
  | [], kvs, h => by
    rw [show kvs = [] from h]
    exact .inl ⟨rfl, rfl⟩
  | e :: r, kvs, h => by
    obtain ⟨v, ks, rfl, h1, h2⟩ := h
    by_cases z : e.1 = n
    · refine .inr ⟨e.2, v, ?_, valV_pos (congrArg Sum.inr z), h1⟩
      rw [Lib.get, List.find?_cons_of_pos (by simpa using z)]
      rfl
    · rw [valV_neg (p := (Sum.inr e.1, v)) (fun q => z (Sum.inr.inj q)), show Lib.get (e :: r) n = Lib.get r n by rw [Lib.get, List.find?_cons_of_neg (by simpa using z)]; rfl]
      exact h2.get
theorem Lib.get_mem {L : Lib} (nd : L.names.Nodup) {e : Str × Ty} (h : e ∈ L) : L.get e.1 = some e.2 := by
  induction L with
  | nil => cases h
  | cons a r ih =>
    rcases List.mem_cons.mp h with rfl | h
    · rw [Lib.get, List.find?_cons_of_pos (by simp)]
      rfl
    · have nd' := List.nodup_cons.mp (show (a.1 :: Lib.names r).Nodup from nd)
      have ne : ¬ a.1 = e.1 := fun z => nd'.1 (z ▸ List.mem_map.mpr ⟨e, h, rfl⟩)
      rw [Lib.get, List.find?_cons_of_neg (by simpa using ne)]
      exact ih nd'.2 h
theorem Lib.get_some {L : Lib} {n : Str} {t : Ty} (h : L.get n = some t) : (n, t) ∈ L := by
  unfold Lib.get at h
  cases z : L.find? (fun e => decide (e.1 = n)) with
  | none => rw [z] at h; cases h
  | some e =>
    rw [z] at h
    have h1 := List.find?_some z
    have h2 := List.mem_of_find?_eq_some z
    have e1 : e.1 = n := by simpa using h1
    have e2 : e.2 = t := by simpa using h
    rw [← e1, ← e2]
    exact h2
theorem Lib.get_none {L : Lib} {n : Str} (h : n ∉ L.names) : L.get n = none := by
  cases z : L.get n with
  | none => rfl
  | some t => exact absurd (List.mem_map.mpr ⟨_, Lib.get_some z, rfl⟩) h
theorem Lib.get_in {L : Lib} {n : Str} (h : n ∈ L.names) : ∃ t, L.get n = some t := by
  obtain ⟨e, he, rfl⟩ := List.mem_map.mp h
  cases z : L.get e.1 with
  | some t => exact ⟨t, rfl⟩
  | none =>
    unfold Lib.get at z
    rw [Option.map_eq_none_iff, List.find?_eq_none] at z
    exact absurd (decide_eq_true (rfl : e.1 = e.1)) (z e he)
theorem IsP.val {C : Addr} {H : Hp} {L : Lib} {kvs : List (Key × V)} (h : IsP C H L kvs) (nd : L.names.Nodup) {i : Nat} {k : Key} {v : V} (z : kvs[i]? = some (k, v)) : valV kvs k = some v := by
  have nk : (kvs.map (·.1)).Nodup := by
    rw [h.keys]
    exact (List.pairwise_map.mpr (List.Pairwise.imp (fun a b => a (Sum.inr.inj b)) nd))
  clear h nd
  induction kvs generalizing i with
  | nil => cases z
  | cons p r ih =>
    rw [List.map_cons, List.nodup_cons] at nk
    cases i with
    | zero => cases z; exact valV_pos rfl
    | succ i =>
      have m : (k, v) ∈ r := List.mem_of_getElem? z
      rw [valV_neg (fun q => nk.1 (q ▸ List.mem_map.mpr ⟨_, m, rfl⟩))]
      exact ih z nk.2
/-- the same parts, in the order of the names -/
def Lib.pick (L : Lib) (ns : List Str) : Lib := ns.map fun n => (n, (L.get n).getD (.mk [] Str.empty))
theorem Lib.pick_names {L : Lib} {ns : List Str} : (L.pick ns).names = ns := by
  rw [Lib.pick, Lib.names, List.map_map]
  exact List.map_id' ns
theorem Lib.pick_self {L : Lib} (nd : L.names.Nodup) : L.pick L.names = L := by
  rw [Lib.pick, Lib.names, List.map_map]
  conv => rhs; rw [← List.map_id L]
  refine List.map_congr_left fun e he => ?_
  show (e.1, (L.get e.1).getD _) = e
  rw [Lib.get_mem nd he]
  rfl
theorem Lib.pick_perm {L : Lib} {ns : List Str} (nd : L.names.Nodup) (pm : ns.Perm L.names) : (L.pick ns).Perm L := by
  have h := pm.map fun n => (n, (L.get n).getD (.mk [] Str.empty))
  have e : L.names.map (fun n => (n, (L.get n).getD (.mk [] Str.empty))) = L := Lib.pick_self nd
  rw [e] at h
  exact h
theorem Lib.Fine.perm {L M : Lib} (f : L.Fine) (pm : M.Perm L) : M.Fine :=
  ⟨fun e h => f.words e (pm.mem_iff.mp h), fun e h => f.fits e (pm.mem_iff.mp h), by rw [pm.length_eq]; exact f.few, (pm.map _).nodup_iff.mpr f.nodup⟩
theorem Lib.fine_nil : Lib.Fine [] := ⟨fun _ h => absurd h (List.not_mem_nil), fun _ h => absurd h (List.not_mem_nil), by decide, List.nodup_nil⟩
theorem IsP.kept {C : Addr} {H H' : Hp} (s : Kept H H') : ∀ {L : Lib} {kvs : List (Key × V)}, IsP C H L kvs → IsP C H' L kvs
  | [], _, h => h
  | e :: r, kvs, h => by
    obtain ⟨v, ks, e1, h1, h2⟩ := h
    exact ⟨v, ks, e1, IsT.kept s _ _ h1, IsP.kept s h2⟩
theorem IsP.same {C : Addr} {H H' : Hp} (s : Same H H') {L : Lib} {kvs : List (Key × V)} (h : IsP C H L kvs) : IsP C H' L kvs := h.held s.held
theorem same_unlock {H H' : Hp} {d : Addr} {u o : HO} (h : H d = some u) (s : Same (upd H d o) H') : Same H (upd H' d u) := fun b v e => by
  by_cases z : b = d
  · subst z
    rw [upd_same]
    rw [h] at e
    exact e
  · rw [upd_ne z]
    exact s _ _ (by rw [upd_ne z]; exact e)
theorem IsP.app {C : Addr} {H : Hp} {e : Str × Ty} {v : V} : ∀ {L : Lib} {kvs : List (Key × V)}, IsP C H L kvs → IsT C H e.2 v → IsP C H (L ++ [e]) (kvs ++ [(Sum.inr e.1, v)])
  | [], kvs, h, t => by
    rw [show kvs = [] from h]
    exact ⟨v, [], rfl, t, rfl⟩
  | a :: r, kvs, h, t => by
    obtain ⟨v', ks, rfl, h1, h2⟩ := h
    exact ⟨v', ks ++ [_], rfl, h1, h2.app t⟩
/-- over a list that stays -/
theorem dc_list {K : PySem.W.Frag} {a : Addr} {xs : List V} {g : TG} {tt : TT} {tk tv : TE} {vs : List Nat} {σ : L2.St} {H1 : Hp} {D : Addr} {Qd : Hp → Prop} (Pv : Nat → Hp → Prop) (h0 : Pv 0 (upd H1 D (.dK []))) (hl : ∀ i H, i ≤ xs.length → Pv i H → SqL K H a xs)
    (hs : ∀ i x H, xs[i]? = some x → Pv i H → g x (wipe σ vs) H fun σ2 H2 => wipe σ2 vs = wipe σ vs ∧ tt σ2 H2 fun b H3 =>
      if b = true then tk σ2 H3 fun y H4 => tv σ2 H4 fun z H5 => ∃ kvs k, y = kV k ∧ H5 D = some (.dK kvs) ∧ kvs.length < sizeLine ∧ Pv (i + 1) (upd H5 D (.dK (putK kvs k z))) else Pv (i + 1) H3) (hd : ∀ H, Pv xs.length H → Qd H) :
    ∃ W : Nat → Nat → Hp → Prop, (∃ m, W 0 m (upd H1 D (.dK []))) ∧ ∀ i m H, W i m H →
      ((Itl K a).stop i H ∧ Qd H) ∨ ((Itl K a).go i H ∧ ∃ Nx : Hp → Prop, (∀ H', Nx H' → ∃ m', m' < m ∧ W (i + 1) m' H') ∧ ∀ x H', (Itl K a).yld i H x H' → g x (wipe σ vs) H' fun σ2 H2 => wipe σ2 vs = wipe σ vs ∧ tt σ2 H2 fun b H3 =>
        if b = true then tk σ2 H3 fun y H4 => tv σ2 H4 fun z H5 => ∃ kvs k, y = kV k ∧ H5 D = some (.dK kvs) ∧ kvs.length < sizeLine ∧ Nx (upd H5 D (.dK (putK kvs k z))) else Nx H3) := by
  refine ⟨fun i m H => m = xs.length - i ∧ i ≤ xs.length ∧ Pv i H, ⟨xs.length, by simp, Nat.zero_le _, h0⟩, ?_⟩
  rintro i m H ⟨rfl, hi, p⟩
  have q := hl i H hi p
  by_cases hlt : i < xs.length
  · refine .inr ⟨⟨xs, xs[i], q, by simp [hlt]⟩, Pv (i + 1), fun H' p' => ⟨xs.length - (i + 1), by omega, rfl, hlt, p'⟩, fun x H' y => ?_⟩
    obtain ⟨e, y⟩ := y
    subst e
    exact hs i x _ (y xs q) p
  · have e : i = xs.length := by omega
    subst e
    exact .inl ⟨⟨xs, q, Nat.le_refl _⟩, hd H p⟩
theorem IsP.pick_out {C : Addr} {H : Hp} {L : Lib} {ns : List Str} {ks : List (Key × V)} {n : Str} (h : IsP C H (L.pick ns) ks) (out : n ∉ ns) : valV ks (Sum.inr n) = none := by
  rcases h.get (n := n) with ⟨_, z⟩ | ⟨t, _, z, _⟩
  · exact z
  · have o : n ∉ (L.pick ns).names := by
      rw [Lib.pick_names]
      exact out
    rw [Lib.get_none o] at z
    cases z
theorem out_take {α : Type} {ys : List α} {i : Nat} (yn : ys.Nodup) (io : i < ys.length) : ys[i] ∉ ys.take i := fun k => by
  have nd := yn
  rw [← List.take_append_drop i ys, List.nodup_append] at nd
  have e : ys[i] ∈ ys.drop i := List.mem_iff_getElem?.mpr ⟨0, by rw [List.getElem?_drop]; exact List.getElem?_eq_getElem io⟩
  exact nd.2.2 _ k _ e rfl
theorem Lib.pick_next {L : Lib} {ys : List Str} {i : Nat} {t : Ty} (io : i < ys.length) (et : L.get ys[i] = some t) : L.pick (ys.take (i + 1)) = L.pick (ys.take i) ++ [(ys[i], t)] := by
  rw [take_next (List.getElem?_eq_getElem io), Lib.pick, List.map_append, ← Lib.pick]
  show _ ++ [(ys[i], (L.get ys[i]).getD _)] = _
  rw [et]
  rfl
/-! ### what stays of types, while another instance is filled -/
def TyO : HO → Prop
  | .tup _ => True
  | .ins _ _ fs => fs.head?.map (·.1) = some "_inputs"
  | _ => False
def HeldT (H H' : Hp) : Prop := ∀ b o, H b = some o → TyO o → H' b = some o
mutual
theorem IsT.heldT {C : Addr} {H H' : Hp} (s : HeldT H H') : ∀ (t : Ty) (v : V), IsT C H t v → IsT C H' t v
  | .mk i a, v, h => by
    rw [IsT] at h ⊢
    obtain ⟨x, dx, p, q, rs, e, hx, hp, hi, hq⟩ := h
    exact ⟨x, dx, p, q, rs, e, s _ _ hx rfl, s _ _ hp trivial, IsTs.heldT s i rs hi, s _ _ hq trivial⟩
theorem IsTs.heldT {C : Addr} {H H' : Hp} (s : HeldT H H') : ∀ (l : List Ty) (rs : List V), IsTs C H l rs → IsTs C H' l rs
  | [], rs, h => by
    rw [IsTs] at h ⊢
    exact h
  | t :: r, rs, h => by
    rw [IsTs] at h ⊢
    obtain ⟨v, vs, e, h1, h2⟩ := h
    exact ⟨v, vs, e, IsT.heldT s t v h1, IsTs.heldT s r vs h2⟩
end
theorem IsP.heldT {C : Addr} {H H' : Hp} (s : HeldT H H') : ∀ {L : Lib} {kvs : List (Key × V)}, IsP C H L kvs → IsP C H' L kvs
  | [], _, h => h
  | e :: r, kvs, h => by
    obtain ⟨v, ks, e1, h1, h2⟩ := h
    exact ⟨v, ks, e1, IsT.heldT s _ _ h1, IsP.heldT s h2⟩
theorem HeldT.trans {H H1 H2 : Hp} (a : HeldT H H1) (b : HeldT H1 H2) : HeldT H H2 := fun x o h f => b x o (a x o h f) f
theorem _root_.L2.Same.heldT {H H' : Hp} (s : Same H H') : HeldT H H' := fun b o h _ => s b o h
theorem heldT_at {H : Hp} {x : Addr} {u o : HO} (h : H x = some u) (n : ¬ TyO u) : HeldT H (upd H x o) := fun b v hb t => by
  rw [upd_ne]
  · exact hb
  · intro z
    subst z
    rw [h] at hb
    cases hb
    exact n t
theorem len_app (a b : Str) : (a ++ b).length = a.length + b.length := by rw [len_tl, tl_append, List.length_append, ← len_tl, ← len_tl]
theorem len_colon : (" : " : Str).length = 3 := by decide +kernel
theorem len_empty : Str.empty.length = 0 := by decide +kernel
theorem Lib.names_at {L : Lib} {i : Nat} {y : V} (h : (L.names.map V.str)[i]? = some y) : ∃ e, L[i]? = some e ∧ y = .str e.1 := by
  rw [Lib.names, List.map_map, List.getElem?_map] at h
  cases z : L[i]? with
  | none => rw [z] at h; cases h
  | some e => rw [z] at h; cases h; exact ⟨e, rfl, rfl⟩
theorem Lib.take_out {L : Lib} (nd : L.names.Nodup) {i : Nat} {e : Str × Ty} (h : L[i]? = some e) : e.1 ∉ Lib.names (L.take i) := by
  have io := lt_of_get h
  have io2 : i < L.names.length := by rw [Lib.names, List.length_map]; exact io
  have o := out_take nd io2
  rw [show L.names[i] = e.1 by
    have : L[i] = e := by rw [List.getElem?_eq_getElem io] at h; exact Option.some.inj h
    simp [Lib.names, this]] at o
  rw [Lib.names, List.map_take]
  exact o
theorem IsP.val_of {C : Addr} {H : Hp} {L : Lib} {kvs : List (Key × V)} (h : IsP C H L kvs) (nd : L.names.Nodup) {e : Str × Ty} (m : e ∈ L) : ∃ v, valV kvs (Sum.inr e.1) = some v ∧ IsT C H e.2 v := by
  have g := Lib.get_mem nd m
  rcases h.get (n := e.1) with ⟨z, _⟩ | ⟨t, v, z, ev, ht⟩
  · rw [g] at z
    cases z
  · rw [g] at z
    cases z
    exact ⟨v, ev, ht⟩
theorem IsP.none_of {C : Addr} {H : Hp} {L : Lib} {kvs : List (Key × V)} {n : Str} (h : IsP C H L kvs) (m : n ∉ L.names) : valV kvs (Sum.inr n) = none := by
  rcases h.get (n := n) with ⟨_, z⟩ | ⟨t, v, z, _, _⟩
  · exact z
  · rw [Lib.get_none m] at z
    cases z
theorem Lib.line_ok {e : Str × Ty} (w : Wd e.1) (f : e.2.Fits) : PyData.strOk (Lib.line e) = true := by
  refine strOk_ascii fun c hc => ?_
  rw [Lib.line, ← tl, tl_append, tl_append, tl_append, List.mem_append, List.mem_append, List.mem_append] at hc
  rcases hc with ((hc | hc) | hc) | hc
  · cases hc
  · exact w.2 c hc
  · exact (show ∀ c ∈ tl (" : " : Str), c < 128 by decide +kernel) c hc
  · exact Ty.text_ascii _ e.2 (Nat.le_refl _) (fun a ha => (f.words a ha).2) c hc
theorem eqv_texts : ∀ l m : List Str, PyData.eqvAll (l.map PyData.str) (m.map PyData.str) = decide (l = m)
  | [], [] => rfl
  | [], _ :: _ => rfl
  | _ :: _, [] => rfl
  | x :: r, y :: s => by
    rw [List.map_cons, List.map_cons, PyData.eqvAll, eqv_texts r s, PyData.eqv]
    by_cases h : x = y
    · subst h
      simp
    · simp [h]


end My
namespace My
open PySem PySem.Spec PyProof.Rows L2 TL
set_option pp.maxSteps 400
set_option pp.deepTerms false
/-! ### libraries made -/
def sp__are_parts (K : PySem.W.Frag) (C : Addr) : Sp := fun vs H Q _ => ∃ d kvs L, vs = [.ref d] ∧ H d = some (.dK kvs) ∧ IsP C H L kvs ∧ L.length ≤ 100 ∧ (∀ e ∈ L, Wd e.1) ∧ L.names.Nodup ∧ ∀ H', Same H H' → Q (.bl (decide (L.length ≤ 8))) H'
def sp_Library___init__ (K : PySem.W.Frag) (C D : Addr) : Sp := fun vs H Q _ => ∃ x dx a, ∃ L : Lib, vs = [.ref x, a] ∧ H x = some (.ins D dx []) ∧ ((a = .non ∧ L = []) ∨ ∃ d kvs, a = .ref d ∧ H d = some (.dK kvs) ∧ IsP C H L kvs) ∧ L.Fine ∧
  ∀ L' H', L'.Perm L → sortedS L'.names = true → (∀ b o, b ≠ x → H b = some o → H' b = some o) → IsL C D H' L' (.ref x) → (∃ d fs dy, H' x = some (.ins D dy (("_parts", .ref d) :: fs)) ∧ H d = none) → Q .non H'
section
variable {P : Program} {w : World} {K : PySem.W.Frag} {mg : Str → Option Value} {base : Heap} {C_Type C_Library : Addr}
theorem ok__are_parts (T : Txt K mg C_Type C_Library) (c_is_word : CalN P w K mg base "is_word" 1 ["value"] (sp_is_word K)) {f : Addr} {fd : FuncData} (F : Fun K "_are_parts" "_are_parts" s__are_parts f fd) : FnOk P w K mg base CX0 2 f fd ["parts"] (sp__are_parts K C_Type) := by
  have nd := sc__are_parts.nd
  refine F.ok sc__are_parts (fun vs H Q E h => ?_) (fun cdv A outer s H vs Q E hr h => ?_)
  · obtain ⟨d, kvs, L, rfl, _⟩ := h
    rfl
  · obtain ⟨d, kvs, L, rfl, hd, hp, few0, hw, nd0, q⟩ := h
    refine ⟨_, (pss_cons (ps_if (PW.pt (pw_or (pt_not (pt_val (pe_callB call_isi (by rfl) T.b_isinstance (by decide +kernel) (pa_cons (pv 0) (pa_cons (pe_bltn (v := .ty "dict") (u := .type "dict") (by rfl) T.b_dict (by decide +kernel) rfl) pa_nil))))) (pw_or1 (pt_cmpR op_gt (pe_callB call_lenD (by rfl) T.b_len (by decide +kernel) (pa_cons (pv 0) pa_nil)) (pe_globE rfl T.g_MAX_PARTS) (nomark _))))) (pss_one (ps_ret pe_bl)) pss_nil)
      (pss_one (ps_ret (pe_callB (cr_all rfl) (by rfl) T.b_all (by decide +kernel) (pa_cons (pe_lock (pe_lcD (own := [("name", 1)]) (by rfl) nd (pi_keys (pv 0)) (blkOk_by (own := [("name", 1)]) (N := ["parts", "name"]) (sc := (defScope s__are_parts)) (by decide +kernel)) (fun _ _ _ _ _ => pg_name (i := 1) nd rfl (Or.inl rfl)) (fun _ _ _ _ _ => pts_nil) (fun _ _ _ _ _ => (pe_and (pe_callN c_is_word (hr.mono (by first | decide | omega)) rfl (pa_cons (pv 1) pa_nil)) (pe_one (pe_callB call_isi (by rfl) T.b_isinstance (by decide +kernel) (pa_cons (pe_dget (by first | exact Nat.lt_of_le_of_lt (Nat.add_le_add_left (by decide : 1 ≤ 64) _) hr.units | exact Nat.lt_of_le_of_lt (Nat.add_le_add_left (by decide : 4 ≤ 64) _) hr.units | exact Nat.lt_of_le_of_lt (Nat.add_le_add_left (by decide : 7 ≤ 64) _) hr.units) (pv 0) (pv 1) (fun _ _ => rfl)) (pa_cons (pe_glob (v := .ref C_Type) rfl T.c_Type rfl) pa_nil)))))))) pa_nil))))), ?_⟩
    have ln := hp.len
    refine ⟨.ref d, rfl, .ref d, .ty "dict", .type "dict", .type "dict", true, rfl, .ty _, .base (.dK hd), kit_ty (by decide +kernel), true, rfl, iteF ?_⟩
    by_cases few : L.length ≤ 8
    case neg =>
      refine ⟨.ref d, rfl, d, _, rfl, hd, _, _, rfl, rfl, true, congrArg V.bl (decide_eq_true (by rw [ln]; omega)), iteT ?_⟩
      have z := q H (Same.refl H)
      rw [decide_eq_false few] at z
      exact z
    rw [decide_eq_true few] at q
    refine ⟨.ref d, rfl, d, _, rfl, hd, _, _, rfl, rfl, false, congrArg V.bl (decide_eq_false (by rw [ln]; omega)), iteF ?_⟩
    refine nx_go ?_
    dsimp only
    refine ⟨d, _, hd, trivial, fun od => ?_⟩
    have hf : Held H (upd H d (.frz od (.dK kvs))) := held_dk hd
    refine ⟨.ref d, rfl, d, od, rfl, .inl ⟨kvs, upd_same, fun D hD => ?_⟩⟩
    refine lc_keys (fun i H' => H' D = some (.lst ((List.replicate i true).map V.bl)) ∧ Same (upd H d (.frz od (.dK kvs))) H') ?_ (fun i H' _ hP => hP.2 _ _ upd_same) (fun i k v H' hk hP => ?_) (fun H' hP => ?_)
    · exact ⟨upd_same, (Same.refl _).mut hD⟩
    · obtain ⟨hD1, s1⟩ := hP
      obtain ⟨e, he, rfl, ht⟩ := hp.at_ hk
      have ht1 := IsT.same s1 _ _ (IsT.held hf _ _ ht)
      have we := hw e (List.mem_of_getElem? he)
      have wl := isW_len we.1
      have io := lt_of_get hk
      refine ⟨rfl, tyes ?_⟩
      refine ⟨.str e.1, rfl, .str e.1, rfl, .inl ⟨e.1, rfl, by omega, we.2⟩, fun H2 s2 => ?_⟩
      refine ⟨true, congrArg V.bl we.1, iteT ?_⟩
      obtain ⟨b, dx, _, _, _, rfl, hb, _⟩ := (IsT.same s2 _ _ ht1).at
      have g : DGet H2 d (.str e.1) (some (.ref b)) := .inl ⟨kvs, Sum.inr e.1, .inr ⟨od, s2 _ _ (s1 _ _ upd_same)⟩, rfl, (hp.val nd0 hk).symm⟩
      refine ⟨.ref d, rfl, .str e.1, rfl, d, .ref b, rfl, g, .ref b, .ref C_Type, .ref C_Type, .ref C_Type, true, rfl, .own _, ty_of_ins T.k_Type T.x_Type hb, kit_self _, _, s2 _ _ hD1, lt_line' ?_, ?_, (s1.trans s2).mut hD⟩
      · rw [List.length_map, List.length_replicate]
        omega
      · rw [upd_same, List.replicate_succ', List.map_append]
        rfl
    · obtain ⟨hD1, s1⟩ := hP
      have nDd : D ≠ d := fun z => by
        rw [z, upd_same] at hD
        cases hD
      refine ⟨s1 _ _ upd_same, D, _, rfl, SqL.of ((upd_ne nDd).trans hD1), ?_⟩
      · have e : (List.replicate kvs.length true).all id = true := List.all_eq_true.mpr fun b hb => by
          rw [List.eq_of_mem_replicate hb]
          rfl
        rw [e]
        exact q _ (same_unlock hd s1)
theorem ok_Library___init__ (T : Txt K mg C_Type C_Library) (c__are_parts : CalN P w K mg base "_are_parts" 2 ["parts"] (sp__are_parts K C_Type)) (p_Type_text : PrpC P w K mg base C_Type "text" 1 ["self"] (getSp C_Type "_text")) {f : Addr} {fd : FuncData} {pms : Arguments} (F : FunD K "__init__" "Library.__init__" pms (defBody s_Library___init__) (defScope s_Library___init__) [.non] [] f fd) : FnOk P w K mg base CX0 3 f fd ["self", "parts"] (sp_Library___init__ K C_Type C_Library) := by
  have nd := sc_Library___init__.nd
  refine F.ok sc_Library___init__ (fun vs H Q E h => ?_) (fun cdv A outer s H vs Q E hr h => ?_)
  · obtain ⟨x, dx, a, L, rfl, _⟩ := h
    rfl
  · obtain ⟨x, dx, a, L, rfl, hx, ha, fine, q⟩ := h
    refine ⟨_, (pss_cons (ps_set (i := 2) nd rfl (.inr rfl) (pe_ifExp (pt_cmpR op_isN (pv 1) pe_non (nomark _)) pe_dnewK (pv 1)))
      (pss_cons (ps_if (pt_not (pt_val (pe_callN c__are_parts (hr.mono (by first | decide | omega)) rfl (pa_cons (pv 2) pa_nil)))) (pss_one ps_never) pss_nil)
      (pss_cons (ps_fld (pv 0) (pe_dcD (own := [("name", 3)]) (by rfl) nd (pi_list (pe_callB (call_sortedD rfl) (by rfl) T.b_sorted (by decide +kernel) (pa_cons (pv 2) pa_nil))) (blkOk_by (own := [("name", 3)]) (N := ["self", "parts", "given", "name"]) (sc := (defScope s_Library___init__)) (by decide +kernel)) (fun _ _ _ _ _ => pg_name (i := 3) nd rfl (Or.inl rfl)) (fun _ _ _ _ _ => pts_nil) (fun _ _ _ _ _ => (pv 3)) (fun _ _ _ _ _ => (pe_dget (by first | exact Nat.lt_of_le_of_lt (Nat.add_le_add_left (by decide : 1 ≤ 64) _) hr.units | exact Nat.lt_of_le_of_lt (Nat.add_le_add_left (by decide : 4 ≤ 64) _) hr.units | exact Nat.lt_of_le_of_lt (Nat.add_le_add_left (by decide : 7 ≤ 64) _) hr.units) (pv 2) (pv 3) (fun _ _ => rfl)))) rfl)
      (pss_cons (ps_fld (pv 0) (pe_callTy (call_tupleD rfl) (by rfl) T.b_tuple (by decide +kernel) (pa_cons (pe_fld (pv 0) rfl) pa_nil)) rfl)
      (pss_one (ps_fld (pv 0) (pe_callTy call_tuple_of (by rfl) T.b_tuple (by decide +kernel) (pa_cons (pe_lcD (own := [("name", 3)]) (by rfl) nd (pi_tup (pe_fld (pv 0) rfl)) (blkOk_by (own := [("name", 3)]) (N := ["self", "parts", "given", "name"]) (sc := (defScope s_Library___init__)) (by decide +kernel)) (fun _ _ _ _ _ => pg_name (i := 3) nd rfl (Or.inl rfl)) (fun _ _ _ _ _ => pts_nil) (fun _ _ _ _ _ => (pe_joined (PJ.cons (pe_fmt (pv 3)) (PJ.cons (pe_fmt (pe_globE rfl T.g__COLON)) (PJ.cons (pe_fmt (pe_propC p_Type_text T.k_Type (hr.mono (by first | decide | omega)) (pe_dget (by first | exact Nat.lt_of_le_of_lt (Nat.add_le_add_left (by decide : 1 ≤ 64) _) hr.units | exact Nat.lt_of_le_of_lt (Nat.add_le_add_left (by decide : 4 ≤ 64) _) hr.units | exact Nat.lt_of_le_of_lt (Nat.add_le_add_left (by decide : 7 ≤ 64) _) hr.units) (pe_fld (pv 0) rfl) (pv 3) (fun _ _ => rfl)))) PJ.nil)))))) pa_nil)) rfl)))))), ?_⟩
    refine cut_set (fun v H' => ∃ d kvs, v = .ref d ∧ H' d = some (.dK kvs) ∧ IsP C_Type H' L kvs ∧ Same H H') (fun Q' q' => ?_) ?_
    · rcases ha with ⟨rfl, rfl⟩ | ⟨d, kvs, rfl, hd, hp⟩
      · refine ⟨.non, rfl, rfl, true, congrArg V.bl (decide_eq_true rfl), iteT fun d hd => ?_⟩
        exact q' _ _ ⟨d, [], rfl, upd_same, rfl, (Same.refl H).new hd⟩
      · refine ⟨.ref d, rfl, rfl, false, congrArg V.bl (decide_eq_false (fun z => nomatch z)), iteF ?_⟩
        exact ⟨.ref d, rfl, q' _ _ ⟨d, kvs, rfl, hd, hp, Same.refl H⟩⟩
    rintro v H1 ⟨d, kvs, rfl, hd, hp, s1⟩
    refine ⟨.ref d, rfl, d, kvs, L, rfl, hd, hp, by have := fine.few; omega, fine.words, fine.nodup, fun H2 s2 => ⟨true, congrArg V.bl (decide_eq_true fine.few), iteF ?_⟩⟩
    refine nx_go ?_
    dsimp only
    have s02 := s1.trans s2
    have hd2 := s2 _ _ hd
    have hp2 := hp.same s2
    clear s1 s2 hd hp ha
    have ln := hp2.len
    have few := fine.few
    refine ⟨.ref d, rfl, d, kvs, L.names, rfl, .inl hd2, hp2.keys, by rw [Lib.names, List.length_map]; omega, fun ys p pm so hpn => ⟨p, rfl, ⟨_, SqL.of upd_same⟩, fun D hD => ?_⟩⟩
    have s3 := (Same.refl H2).new (o := .lst (ys.map V.str)) hpn
    have Dd := s3.free hD
    have yn : ys.Nodup := pm.nodup_iff.mpr fine.nodup
    have nD0 : H D = none := s02.free Dd
    refine dc_list (xs := ys.map V.str) (fun i H' => ∃ ks, H' D = some (.dK ks) ∧ IsP C_Type H' (L.pick (ys.take i)) ks ∧ Same (upd H2 p (.lst (ys.map V.str))) H') ?_ (fun i H' _ hP => ?_) (fun i y H' hy hP => ?_) (fun H' hP => ?_)
    · exact ⟨[], upd_same, by rw [List.take_zero]; rfl, (Same.refl _).mut hD⟩
    · obtain ⟨_, _, _, s4⟩ := hP
      exact SqL.of (s4 _ _ upd_same)
    · obtain ⟨ks, hD1, hp1, s4⟩ := hP
      have io := lt_of_get hy
      rw [List.length_map] at io
      rw [List.getElem?_map, List.getElem?_eq_getElem io] at hy
      cases hy
      have s24 := s3.trans s4
      have mem : ys[i] ∈ L.names := pm.mem_iff.mp (List.getElem_mem io)
      obtain ⟨t, et⟩ := Lib.get_in mem
      rcases (hp2.same s24).get (n := ys[i]) with ⟨z, _⟩ | ⟨t', v, et', ev, ht⟩
      · rw [et] at z
        cases z
      rw [et] at et'
      cases et'
      have g : DGet H' d (.str ys[i]) (some v) := .inl ⟨kvs, Sum.inr ys[i], .inl (s24 _ _ hd2), rfl, ev.symm⟩
      have kl := hp1.len
      rw [Lib.pick, List.length_map, List.length_take] at kl
      have l8 : ys.length ≤ 8 := by
        rw [pm.length_eq, Lib.names, List.length_map]
        exact few
      refine ⟨rfl, tyes ?_⟩
      refine ⟨.str ys[i], rfl, .ref d, rfl, .str ys[i], rfl, d, v, rfl, g, _, Sum.inr ys[i], rfl, hD1, lt_line' (by omega), ks ++ [(Sum.inr ys[i], v)], ?_, ?_, s4.mut hD⟩
      · rw [upd_same, putK_new _ (hp1.pick_out (out_take yn io))]
      · have hh := held_dk (o := .dK (putK ks (Sum.inr ys[i]) v)) hD1
        rw [Lib.pick_next io et]
        exact (hp1.held hh).app (IsT.held hh _ _ ht)
    · obtain ⟨ks, hD1, hp1, s4⟩ := hP
      rw [List.length_map, List.take_length] at hp1
      have s24 := s3.trans s4
      have lp := Lib.pick_perm fine.nodup pm
      have fine' := fine.perm lp
      generalize hL : L.pick ys = L' at hp1 lp fine'
      have en : L'.names = ys := by rw [← hL]; exact Lib.pick_names
      have hxH := s24 _ _ (s02 _ _ hx)
      refine ⟨.ref x, rfl, x, C_Library, dx, _, rfl, hxH, T.k_Library, T.x_Library.n_parts, by decide, ?_⟩
      rw [show putF "_parts" (V.ref D) [] = [(("_parts" : Str), V.ref D)] from rfl]
      have k3 : HeldT H' (upd H' x (.ins C_Library dx [(("_parts" : Str), V.ref D)])) := heldT_at hxH (by show ¬ (none = some _); exact fun z => nomatch z)
      have o3 : Ext x H (upd H' x (.ins C_Library dx [(("_parts" : Str), V.ref D)])) := (Ext.same (s02.trans s24)).trans .set
      have hx3 : upd H' x (.ins C_Library dx [(("_parts" : Str), V.ref D)]) x = some (.ins C_Library dx [(("_parts" : Str), V.ref D)]) := upd_same
      have xD : D ≠ x := ne_of hD1 hxH (fun z => nomatch z)
      have hD3 : upd H' x (.ins C_Library dx [(("_parts" : Str), V.ref D)]) D = some (.dK ks) := (upd_ne xD).trans hD1
      generalize upd H' x (.ins C_Library dx [(("_parts" : Str), V.ref D)]) = H3 at k3 o3 hx3 hD3
      have hp3 := hp1.heldT k3
      clear hD1 hp1 s24 s4 hxH hd2 hp2 s3 s02 hD hpn Dd k3
      refine ⟨.ref x, rfl, x, C_Library, dx, _, .ref D, rfl, hx3, T.k_Library, T.x_Library.n_parts, rfl, D, ks, rfl, .inl hD3, fun p1 h1 => ?_⟩
      have ek : (ks.map fun kv => kV kv.1) = ys.map V.str := by
        have e := congrArg (List.map kV) hp3.keys
        rw [List.map_map, List.map_map, en] at e
        exact e
      rw [ek]
      have p1x : x ≠ p1 := ne_of_none hx3 h1
      have h4x : upd H3 p1 (.tup (ys.map V.str)) x = _ := (upd_ne p1x).trans hx3
      refine ⟨.ref x, rfl, x, C_Library, dx, _, rfl, h4x, T.k_Library, T.x_Library.n_names, by show 1 < 1000; decide, ?_⟩
      rw [putF_new "_names" (V.ref p1) [(("_parts" : Str), V.ref D)] (show ∀ g ∈ (["_parts"] : List Str), g ≠ "_names" by decide +kernel), List.cons_append, List.nil_append]
      have hD5 := (upd_ne (o := .ins C_Library dx [(("_parts" : Str), V.ref D), ("_names", .ref p1)]) xD).trans ((upd_ne (o := .tup (ys.map V.str)) (ne_of_none hD3 h1)).trans hD3)
      have hp15 := (upd_ne (H := upd H3 p1 (.tup (ys.map V.str))) (o := .ins C_Library dx [(("_parts" : Str), V.ref D), ("_names", .ref p1)]) p1x.symm).trans upd_same
      have hp5 := (hp3.same ((Same.refl H3).new (o := .tup (ys.map V.str)) h1)).heldT (heldT_at (o := .ins C_Library dx [(("_parts" : Str), V.ref D), ("_names", .ref p1)]) h4x (fun z => absurd (Option.some.inj (show some ("_parts" : Str) = some "_inputs" from z)) (by decide +kernel)))
      have o5 := (o3.new (o := .tup (ys.map V.str)) h1).trans (Ext.set (o := .ins C_Library dx [(("_parts" : Str), V.ref D), ("_names", .ref p1)]))
      have hx5 : upd (upd H3 p1 (.tup (ys.map V.str))) x (.ins C_Library dx [(("_parts" : Str), V.ref D), ("_names", .ref p1)]) x = some _ := upd_same
      generalize upd (upd H3 p1 (.tup (ys.map V.str))) x (.ins C_Library dx [(("_parts" : Str), V.ref D), ("_names", .ref p1)]) = H5 at hD5 hp15 hp5 o5 hx5
      clear h4x p1x h1 hp3 hD3 hx3 o3
      refine ⟨.ref x, rfl, x, C_Library, dx, _, .ref p1, rfl, hx5, T.k_Library, T.x_Library.n_names, rfl, p1, rfl, ⟨_, SqT.of hp15⟩, fun D2 hD2 => ?_⟩
      refine lc_tup (xs := ys.map V.str) (fun i H' => H' D2 = some (.lst (((L'.take i).map Lib.line).map V.str)) ∧ Same H5 H') ?_ (fun i H' _ hP => SqT.of (hP.2 _ _ hp15)) (fun i y H' hy hP => ?_) (fun H' hP => ?_)
      · exact ⟨by rw [upd_same, List.take_zero]; rfl, (Same.refl H5).mut hD2⟩
      · obtain ⟨hD6, s6⟩ := hP
        have io := lt_of_get hy
        rw [List.length_map] at io
        rw [List.getElem?_map, List.getElem?_eq_getElem io] at hy
        cases hy
        have el : L'[i]? = some (ys[i], (L'[i]'(by rw [← en, Lib.names, List.length_map] at io; exact io)).2) := by
          rw [List.getElem?_eq_getElem (by rw [← en, Lib.names, List.length_map] at io; exact io)]
          congr 1
          refine Prod.ext ?_ rfl
          subst en
          simp [Lib.names]
        generalize (L'[i]'(by rw [← en, Lib.names, List.length_map] at io; exact io)).2 = t at el
        have em := List.mem_of_getElem? el
        have ft : t.Fits := fine'.fits _ em
        have wn : Wd ys[i] := fine'.words _ em
        rcases (hp5.same s6).get (n := ys[i]) with ⟨z, _⟩ | ⟨t', v, et', ev, ht⟩
        · rw [show L'.get ys[i] = some t from Lib.get_mem fine'.nodup em] at z
          cases z
        rw [show L'.get ys[i] = some t from Lib.get_mem fine'.nodup em] at et'
        cases et'
        have g : DGet H' D (.str ys[i]) (some v) := .inl ⟨ks, Sum.inr ys[i], .inl (s6 _ _ hD5), rfl, ev.symm⟩
        obtain ⟨b, db, _, _, _, rfl, hb, _⟩ := ht.at
        refine ⟨rfl, tyes ?_⟩
        have tl := Ty.text_small ft.words ft.few
        have wl := isW_len wn.1
        have l1 := len_app Str.empty ys[i]
        have l2 := len_app (Str.empty ++ ys[i]) (" : " : Str)
        have l3 := len_app (Str.empty ++ ys[i] ++ (" : " : Str)) t.text
        rw [len_empty] at l1
        rw [len_colon] at l2
        have hx6 := s6 _ _ hx5
        have io8 : i < 8 := by
          have := fine'.few
          rw [← en, Lib.names, List.length_map] at io
          omega
        refine ⟨.str ys[i], rfl, .inl ⟨_, rfl, lt_line (by omega), _, rfl, lt_line (by omega), .inl ⟨" : ", rfl, lt_line (by rw [len_colon]; decide), _, rfl, lt_line (by omega), ?_⟩⟩⟩
        refine ⟨.ref x, rfl, x, C_Library, dx, _, .ref D, rfl, hx6, T.k_Library, T.x_Library.n_parts, rfl, .str ys[i], rfl, D, .ref b, rfl, g, b, db, _, rfl, hb, b, db, _, .str t.text, rfl, hb, rfl, .inl ⟨_, rfl, lt_line (by omega), _, rfl, lt_line (by omega), _, hD6, lt_line' ?_, ?_, s6.mut hD2⟩⟩
        · rw [List.length_map, List.length_map, List.length_take]
          omega
        · rw [upd_same, take_next el, List.map_append, List.map_append]
          rfl
      · obtain ⟨hD6, s6⟩ := hP
        rw [List.length_map, ← en, Lib.names, List.length_map, List.take_length] at hD6
        refine ⟨D2, _, rfl, .inl ⟨SqL.of hD6, fun l hl => ?_⟩⟩
        have s7 := s6.new (o := .tup (L'.lines.map V.str)) hl
        refine ⟨.ref x, rfl, x, C_Library, dx, _, rfl, s7 _ _ hx5, T.k_Library, T.x_Library.n_lines, by show 2 < 1000; decide, ?_⟩
        rw [putF_new "_lines" (V.ref l) [(("_parts" : Str), V.ref D), ("_names", .ref p1)] (show ∀ g ∈ (["_parts", "_names"] : List Str), g ≠ "_lines" by decide +kernel), List.cons_append, List.cons_append, List.nil_append]
        have xl : l ≠ x := (ne_of_none (s6 _ _ hx5) hl).symm
        have xp : p1 ≠ x := ne_of hp15 hx5 (fun z => nomatch z)
        refine q L' _ lp (by rw [en]; exact so) (o5.trans ((Ext.same s7).trans .set)) ⟨x, dx, D, p1, l, ks, rfl, upd_same, ?_, ?_, ?_, ?_⟩ ⟨D, _, dx, upd_same, nD0⟩
        · rw [upd_ne xD]
          exact s7 _ _ hD5
        · exact (hp5.same s7).heldT (heldT_at (s7 _ _ hx5) (fun z => absurd (Option.some.inj (show some ("_parts" : Str) = some "_inputs" from z)) (by decide +kernel)))
        · rw [upd_ne xp, en]
          exact s7 _ _ hp15
        · rw [upd_ne xl]
          exact upd_same
end


end My
namespace My
open PySem PySem.Spec PyProof.Rows L2 TL
set_option pp.maxSteps 400
set_option pp.deepTerms false
/-! ### what libraries tell -/
def sp_Library_parts (K : PySem.W.Frag) (C D : Addr) : Sp := fun vs H Q _ => ∃ v, ∃ L : Lib, vs = [v] ∧ IsL C D H L v ∧ L.Fine ∧ ∀ d kvs H', Same H H' → H d = none → H' d = some (.dK kvs) → IsP C H' L kvs → Q (.ref d) H'
def sp_Library_atoms (K : PySem.W.Frag) (C D : Addr) : Sp := fun vs H Q _ => ∃ v, ∃ L : Lib, vs = [v] ∧ IsL C D H L v ∧ L.Fine ∧ (∀ e ∈ L, e.2.places.length ≤ 7) ∧
  ∀ p ys H', Same H H' → H' p = some (.tup (ys.map V.str)) → ys.Nodup → sortedS ys = true → (∀ a, a ∈ ys ↔ ∃ e ∈ L, a ∈ e.2.places) → ys.length ≤ 56 → Q (.ref p) H'
def sp_Library_scope (K : PySem.W.Frag) (C D : Addr) : Sp := fun vs H Q _ => ∃ v, ∃ L : Lib, vs = [v] ∧ IsL C D H L v ∧ L.Fine ∧
  ∀ p ys H', Same H H' → H' p = some (.tup (ys.map V.str)) → ys.Nodup → sortedS ys = true → (∀ a, a ∈ ys ↔ ∃ e ∈ L, a = e.2.text) → Q (.ref p) H'
def sp_Library_order (K : PySem.W.Frag) (C D : Addr) : Sp := fun vs H Q _ => ∃ v, ∃ L : Lib, vs = [v] ∧ IsL C D H L v ∧ L.Fine ∧
  ∀ m H', Same H H' → (L = [] → m = 0) → (L ≠ [] → m ∈ L.map (fun e => ((e.2.order : Nat) : Int)) ∧ ∀ y ∈ L.map (fun e => ((e.2.order : Nat) : Int)), y ≤ m) → Q (.int m) H'
section
variable {P : Program} {w : World} {K : PySem.W.Frag} {mg : Str → Option Value} {base : Heap} {C_Type C_Library : Addr}
theorem ok_Library_parts (T : Txt K mg C_Type C_Library) {f : Addr} {fd : FuncData} (F : Fun K "parts" "Library.parts" s_Library_parts f fd) : FnOk P w K mg base CX0 1 f fd ["self"] (sp_Library_parts K C_Type C_Library) := by
  have nd := sc_Library_parts.nd
  refine F.ok sc_Library_parts (fun vs H Q E h => ?_) (fun cdv A outer s H vs Q E hr h => ?_)
  · obtain ⟨v, L, rfl, _⟩ := h
    rfl
  · obtain ⟨v, L, rfl, hl, fine, q⟩ := h
    refine ⟨_, (pss_one (ps_ret (pe_dcD (own := [("name", 1)]) (by rfl) nd (pi_tup (pe_fld (pv 0) rfl)) (blkOk_by (own := [("name", 1)]) (N := ["self", "name"]) (sc := (defScope s_Library_parts)) (by decide +kernel)) (fun _ _ _ _ _ => pg_name (i := 1) nd rfl (Or.inl rfl)) (fun _ _ _ _ _ => pts_nil) (fun _ _ _ _ _ => (pv 1)) (fun _ _ _ _ _ => (pe_dget (by first | exact Nat.lt_of_le_of_lt (Nat.add_le_add_left (by decide : 1 ≤ 64) _) hr.units | exact Nat.lt_of_le_of_lt (Nat.add_le_add_left (by decide : 4 ≤ 64) _) hr.units | exact Nat.lt_of_le_of_lt (Nat.add_le_add_left (by decide : 7 ≤ 64) _) hr.units) (pe_fld (pv 0) rfl) (pv 1) (fun _ _ => rfl)))))), ?_⟩
    obtain ⟨x, dx, d, p, q', kvs, rfl, hx, hd, hp, hn, hq⟩ := hl
    have few := fine.few
    refine ⟨.ref x, rfl, x, C_Library, dx, _, .ref p, rfl, hx, T.k_Library, T.x_Library.n_names, rfl, p, rfl, ⟨_, SqT.of hn⟩, fun D hD => ?_⟩
    refine dc_tup (xs := L.names.map V.str) (fun i H' => ∃ ks, H' D = some (.dK ks) ∧ IsP C_Type H' (L.take i) ks ∧ Same H H') ?_ (fun i H' _ hP => ?_) (fun i y H' hy hP => ?_) (fun H' hP => ?_)
    · exact ⟨[], upd_same, by rw [List.take_zero]; rfl, (Same.refl _).mut hD⟩
    · obtain ⟨_, _, _, s4⟩ := hP
      exact SqT.of (s4 _ _ hn)
    · obtain ⟨ks, hD1, hp1, s4⟩ := hP
      obtain ⟨e, he, rfl⟩ := Lib.names_at hy
      have io := lt_of_get he
      obtain ⟨v, ev, ht⟩ := (hp.same s4).val_of fine.nodup (List.mem_of_getElem? he)
      have g : DGet H' d (.str e.1) (some v) := .inl ⟨kvs, Sum.inr e.1, .inl (s4 _ _ hd), rfl, ev.symm⟩
      have kl := hp1.len
      rw [List.length_take] at kl
      refine ⟨rfl, tyes ?_⟩
      refine ⟨.str e.1, rfl, .ref x, rfl, x, C_Library, dx, _, .ref d, rfl, s4 _ _ hx, T.k_Library, T.x_Library.n_parts, rfl, .str e.1, rfl, d, v, rfl, g, _, Sum.inr e.1, rfl, hD1, lt_line' (by omega), ks ++ [(Sum.inr e.1, v)], ?_, ?_, s4.mut hD⟩
      · rw [upd_same, putK_new _ (hp1.none_of (Lib.take_out fine.nodup he))]
      · have hh := held_dk (o := .dK (putK ks (Sum.inr e.1) v)) hD1
        rw [take_next he]
        exact (hp1.held hh).app (IsT.held hh _ _ ht)
    · obtain ⟨ks, hD1, hp1, s4⟩ := hP
      rw [List.length_map, Lib.names, List.length_map, List.take_length] at hp1
      exact q D ks H' s4 hD hD1 hp1
theorem ok_Library_atoms (T : Txt K mg C_Type C_Library) (p_Type_atoms : PrpC P w K mg base C_Type "atoms" 1 ["self"] (sp_Type_atoms K C_Type)) {f : Addr} {fd : FuncData} (F : Fun K "atoms" "Library.atoms" s_Library_atoms f fd) : FnOk P w K mg base CX0 3 f fd ["self"] (sp_Library_atoms K C_Type C_Library) := by
  have nd := sc_Library_atoms.nd
  refine F.ok sc_Library_atoms (fun vs H Q E h => ?_) (fun cdv A outer s H vs Q E hr h => ?_)
  · obtain ⟨v, L, rfl, _⟩ := h
    rfl
  · obtain ⟨v, L, rfl, hl, fine, small, q⟩ := h
    refine ⟨_, (pss_one (ps_ret (pe_callTy call_tuple_of (by rfl) T.b_tuple (by decide +kernel) (pa_cons (pe_callB (cr_sortS rfl) (by rfl) T.b_sorted (by decide +kernel) (pa_cons (pe_callTy (cr_setE rfl) (by rfl) T.b_set (by decide +kernel) (pa_cons (pe_lc2D (own := [("name", 1), ("word", 2)]) (vs1 := [2]) (by rfl) nd (pi_tup (pe_fld (pv 0) rfl)) (blkOk_by (own := [("name", 1), ("word", 2)]) (N := ["self", "name", "word"]) (sc := (defScope s_Library_atoms)) (by decide +kernel)) (by decide) (fun _ _ _ _ _ => pg_name (i := 1) nd rfl (Or.inl rfl)) (fun _ _ _ _ _ => pts_nil) (fun _ _ _ _ _ => (pi_tup (pe_propC p_Type_atoms T.k_Type (hr.mono (by first | decide | omega)) (pe_dget (by first | exact Nat.lt_of_le_of_lt (Nat.add_le_add_left (by decide : 1 ≤ 64) _) hr.units | exact Nat.lt_of_le_of_lt (Nat.add_le_add_left (by decide : 4 ≤ 64) _) hr.units | exact Nat.lt_of_le_of_lt (Nat.add_le_add_left (by decide : 7 ≤ 64) _) hr.units) (pe_fld (pv 0) rfl) (pv 1) (fun _ _ => rfl))))) (fun _ _ _ _ _ => pg_name (i := 2) nd rfl (Or.inl rfl)) (fun _ _ _ _ _ => pts_nil) (fun _ _ _ _ _ => (pv 2))) pa_nil)) pa_nil)) pa_nil)))), ?_⟩
    obtain ⟨x, dx, d, p, q', kvs, rfl, hx, hd, hp, hn, hq⟩ := hl
    have few := fine.few
    refine ⟨.ref x, rfl, x, C_Library, dx, _, .ref p, rfl, hx, T.k_Library, T.x_Library.n_names, rfl, p, rfl, ⟨_, SqT.of hn⟩, fun D hD => ?_⟩
    refine walk_tup (xs := L.names.map V.str) (fun i H' => ∃ acc : List Str, H' D = some (.lst (acc.map V.str)) ∧ (∀ a, a ∈ acc ↔ ∃ e ∈ L.take i, a ∈ e.2.places) ∧ acc.length ≤ 7 * i ∧ Same H H') ?_ (fun i H' _ hP => ?_) (fun i y H' hy hP => ?_) (fun H' hP => ?_)
    · refine ⟨[], upd_same, fun a => ⟨fun h => absurd h List.not_mem_nil, fun ⟨e, he, _⟩ => ?_⟩, Nat.zero_le _, (Same.refl _).mut hD⟩
      rw [List.take_zero] at he
      exact absurd he List.not_mem_nil
    · obtain ⟨_, _, _, _, s4⟩ := hP
      exact SqT.of (s4 _ _ hn)
    · obtain ⟨acc, hD1, mem, la, s4⟩ := hP
      obtain ⟨e, he, rfl⟩ := Lib.names_at hy
      have io := lt_of_get he
      have em := List.mem_of_getElem? he
      have sm := small e em
      obtain ⟨v, ev, ht⟩ := (hp.same s4).val_of fine.nodup em
      have g : DGet H' d (.str e.1) (some v) := .inl ⟨kvs, Sum.inr e.1, .inl (s4 _ _ hd), rfl, ev.symm⟩
      obtain ⟨b, db, _, _, _, rfl, hb, _⟩ := ht.at
      refine ⟨rfl, tyes ?_⟩
      refine ⟨.ref x, rfl, x, C_Library, dx, _, .ref d, rfl, s4 _ _ hx, T.k_Library, T.x_Library.n_parts, rfl, .str e.1, rfl, d, .ref b, rfl, g, b, db, _, rfl, hb, .ref b, e.2, rfl, ht, fine.fits e em, fun p1 ys H1 s1 hp1 ia => ⟨p1, rfl, ⟨_, SqT.of hp1⟩, ?_⟩⟩
      have l7 : ys.length ≤ 7 := Nat.le_trans ia.2.2.2 sm
      have s41 := s4.trans s1
      refine walk_tup (xs := ys.map V.str) (fun j H'' => H'' D = some (.lst ((acc ++ ys.take j).map V.str)) ∧ Same H H'' ∧ H'' p1 = some (.tup (ys.map V.str))) ?_ (fun i H' _ hP => SqT.of hP.2.2) (fun j y H'' hy2 hP => ?_) (fun H'' hP => ?_)
      · exact ⟨by rw [List.take_zero, List.append_nil]; exact s1 _ _ hD1, s41, hp1⟩
      · obtain ⟨hD2, s2, hq2⟩ := hP
        have jo := lt_of_get hy2
        rw [List.length_map] at jo
        rw [List.getElem?_map, List.getElem?_eq_getElem jo] at hy2
        cases hy2
        refine ⟨rfl, tyes ?_⟩
        refine ⟨_, rfl, _, hD2, lt_line' ?_, ?_, s2.mut hD, ?_⟩
        · rw [List.length_map, List.length_append, List.length_take]
          omega
        · rw [upd_same, take_next (List.getElem?_eq_getElem jo), ← List.append_assoc, List.map_append (l₂ := [ys[j]])]
          rfl
        · rw [upd_ne (ne_of hq2 hD2 (fun z => nomatch z))]
          exact hq2
      · obtain ⟨hD2, s2, hq2⟩ := hP
        rw [List.length_map, List.take_length] at hD2
        refine ⟨acc ++ ys, hD2, fun a => ?_, by rw [List.length_append]; omega, s2⟩
        rw [take_next he, List.mem_append, mem, ia.2.2.1 a]
        constructor
        · rintro (⟨e', h1, h2⟩ | h)
          · exact ⟨e', List.mem_append_left _ h1, h2⟩
          · exact ⟨e, List.mem_append_right _ (List.mem_singleton.mpr rfl), h⟩
        · rintro ⟨e', h1, h2⟩
          rcases List.mem_append.mp h1 with h1 | h1
          · exact .inl ⟨e', h1, h2⟩
          · rw [List.mem_singleton.mp h1] at h2
            exact .inr h2
    · obtain ⟨acc, hD1, mem, la, s4⟩ := hP
      rw [List.length_map, Lib.names, List.length_map] at mem la
      rw [List.take_length] at mem
      refine ⟨D, acc, rfl, .inr (SqL.of hD1), by omega, fun a M ha hM memM => ?_⟩
      refine ⟨a, M, rfl, upd_same, by omega, fun ys p0 pm nd so hp0 => ?_⟩
      refine ⟨p0, _, rfl, .inl ⟨SqL.of upd_same, fun l hl => ?_⟩⟩
      exact q l ys _ (((s4.new ha).new hp0).new hl) upd_same nd so (fun a => (pm.mem_iff.trans (memM a)).trans (mem a)) (by rw [pm.length_eq]; omega)
end


end My
namespace My
open PySem PySem.Spec PyProof.Rows L2 TL
set_option pp.maxSteps 400
set_option pp.deepTerms false
def sp_Library_heads (K : PySem.W.Frag) (C D : Addr) : Sp := fun vs H Q _ => ∃ v a, ∃ L : Lib, vs = [v, .str a] ∧ IsL C D H L v ∧ L.Fine ∧ Wd a ∧ ∀ p H', Same H H' → H' p = some (.tup ((Lib.names (L.filter fun e => decide (e.2.atom = a))).map V.str)) → Q (.ref p) H'
def NoStr (K : PySem.W.Frag) (H : Hp) (u : V) : Prop := ∃ t0, TyX K H u t0 ∧ PySem.W.kitOne K t0 (.type "str") = some false
def sp_Library___contains__ (K : PySem.W.Frag) (C D : Addr) : Sp := fun vs H Q _ => ∃ v u, ∃ L : Lib, vs = [v, u] ∧ IsL C D H L v ∧ ((∃ n, u = .str n ∧ Q (.bl (decide (n ∈ L.names))) H) ∨ (NoStr K H u ∧ Q (.bl false) H))
def sp_Library___len__ (K : PySem.W.Frag) (C D : Addr) : Sp := fun vs H Q _ => ∃ v, ∃ L : Lib, vs = [v] ∧ IsL C D H L v ∧ Q (.int (L.length : Nat)) H
def sp_Library___eq__ (K : PySem.W.Frag) (C D : Addr) : Sp := fun vs H Q _ => ∃ v u, ∃ L : Lib, vs = [v, u] ∧ IsL C D H L v ∧ L.Fine ∧ ((∃ M : Lib, IsL C D H M u ∧ M.Fine ∧ Q (.bl (decide (L.lines = M.lines))) H) ∨ (Odd K D H u ∧ Q (.bl false) H))
def sp_Library___getitem__ (K : PySem.W.Frag) (C D : Addr) : Sp := fun vs H Q _ => ∃ v n t, ∃ L : Lib, vs = [v, .str n] ∧ IsL C D H L v ∧ L.get n = some t ∧ ∀ u, IsT C H t u → Q u H
def sp_Library___iter__ (K : PySem.W.Frag) (C D : Addr) : Nat → Sp := fun n vs H Q _ => ∃ v, ∃ L : Lib, vs = [v] ∧ IsL C D H L v ∧ ∀ it l, n ≤ it → H it = none → H l = some (.tup (L.names.map V.str)) → Q (.ref it) (upd H it (TiO l it 0))
theorem Lib.Fine.lines_ok {L : Lib} (f : L.Fine) : ∀ x ∈ L.lines, PyData.strOk x = true := fun x hx => by
  obtain ⟨e, he, rfl⟩ := List.mem_map.mp hx
  exact Lib.line_ok (f.words e he) (f.fits e he)
section
variable {P : Program} {w : World} {K : PySem.W.Frag} {mg : Str → Option Value} {base : Heap} {C_Type C_Library : Addr}
theorem lib_of_ins {H : Hp} {a dx : Addr} {fs : List (Str × V)} (k : Cls K C_Library) (x : XLibrary K C_Library) (h : H a = some (.ins C_Library dx fs)) : TyX K H (.ref a) (.ref C_Library) := .base (.ins h k x.cl1 x.cl2 x.cl3 x.cl4)
theorem ok_Library_order (T : Txt K mg C_Type C_Library) (p_Type_order : PrpC P w K mg base C_Type "order" 1 ["self"] (getSp C_Type "_order")) {f : Addr} {fd : FuncData} (F : Fun K "order" "Library.order" s_Library_order f fd) : FnOk P w K mg base CX0 3 f fd ["self"] (sp_Library_order K C_Type C_Library) := by
  have nd := sc_Library_order.nd
  refine F.ok sc_Library_order (fun vs H Q E h => ?_) (fun cdv A outer s H vs Q E hr h => ?_)
  · obtain ⟨v, L, rfl, _⟩ := h
    rfl
  · obtain ⟨v, L, rfl, hl, fine, q⟩ := h
    refine ⟨_, (pss_one (ps_ret (pe_maxD rfl (by rfl) T.b_max (pe_lcD (own := [("name", 1)]) (by rfl) nd (pi_tup (pe_fld (pv 0) rfl)) (blkOk_by (own := [("name", 1)]) (N := ["self", "name"]) (sc := (defScope s_Library_order)) (by decide +kernel)) (fun _ _ _ _ _ => pg_name (i := 1) nd rfl (Or.inl rfl)) (fun _ _ _ _ _ => pts_nil) (fun _ _ _ _ _ => (pe_propC p_Type_order T.k_Type (hr.mono (by first | decide | omega)) (pe_dget (by first | exact Nat.lt_of_le_of_lt (Nat.add_le_add_left (by decide : 1 ≤ 64) _) hr.units | exact Nat.lt_of_le_of_lt (Nat.add_le_add_left (by decide : 4 ≤ 64) _) hr.units | exact Nat.lt_of_le_of_lt (Nat.add_le_add_left (by decide : 7 ≤ 64) _) hr.units) (pe_fld (pv 0) rfl) (pv 1) (fun _ _ => rfl))))) pe_int))), ?_⟩
    obtain ⟨x, dx, d, p, q', kvs, rfl, hx, hd, hp, hn, hq⟩ := hl
    have few := fine.few
    refine ⟨.ref x, rfl, x, C_Library, dx, _, .ref p, rfl, hx, T.k_Library, T.x_Library.n_names, rfl, p, rfl, ⟨_, SqT.of hn⟩, fun D hD => ?_⟩
    refine lc_tup (xs := L.names.map V.str) (fun i H' => H' D = some (.lst (((L.take i).map fun e => ((e.2.order : Nat) : Int)).map V.int)) ∧ Same H H') ?_ (fun i H' _ hP => SqT.of (hP.2 _ _ hn)) (fun i y H' hy hP => ?_) (fun H' hP => ?_)
    · exact ⟨by rw [upd_same, List.take_zero]; rfl, (Same.refl H).mut hD⟩
    · obtain ⟨hD1, s4⟩ := hP
      obtain ⟨e, he, rfl⟩ := Lib.names_at hy
      have io := lt_of_get he
      obtain ⟨v, ev, ht⟩ := (hp.same s4).val_of fine.nodup (List.mem_of_getElem? he)
      have g : DGet H' d (.str e.1) (some v) := .inl ⟨kvs, Sum.inr e.1, .inl (s4 _ _ hd), rfl, ev.symm⟩
      obtain ⟨b, db, _, _, _, rfl, hb, _⟩ := ht.at
      refine ⟨rfl, tyes ?_⟩
      refine ⟨.ref x, rfl, x, C_Library, dx, _, .ref d, rfl, s4 _ _ hx, T.k_Library, T.x_Library.n_parts, rfl, .str e.1, rfl, d, .ref b, rfl, g, b, db, _, rfl, hb, b, db, _, .int ((e.2.order : Nat) : Int), rfl, hb, rfl, _, hD1, lt_line' ?_, ?_, s4.mut hD⟩
      · rw [List.length_map, List.length_map, List.length_take]
        omega
      · rw [upd_same, take_next he, List.map_append, List.map_append]
        rfl
    · obtain ⟨hD1, s4⟩ := hP
      rw [List.length_map, Lib.names, List.length_map, List.take_length] at hD1
      refine ⟨_, rfl, D, L.map (fun e => ((e.2.order : Nat) : Int)), 0, rfl, rfl, SqL.of hD1, fun m h0 h1 => q m _ s4 (fun z => ?_) (fun z => ?_)⟩
      · exact h0 (by rw [z]; rfl)
      · exact h1 (fun y => z (List.map_eq_nil_iff.mp y))
theorem ok_Library___contains__ (T : Txt K mg C_Type C_Library) {f : Addr} {fd : FuncData} (F : Fun K "__contains__" "Library.__contains__" s_Library___contains__ f fd) : FnOk P w K mg base CX0 1 f fd ["self", "x"] (sp_Library___contains__ K C_Type C_Library) := by
  have nd := sc_Library___contains__.nd
  refine F.ok sc_Library___contains__ (fun vs H Q E h => ?_) (fun cdv A outer s H vs Q E hr h => ?_)
  · obtain ⟨v, u, L, rfl, _⟩ := h
    rfl
  · obtain ⟨v, u, L, rfl, hl, h⟩ := h
    refine ⟨_, (pss_one (ps_ret (pe_and (pe_callB call_isi (by rfl) T.b_isinstance (by decide +kernel) (pa_cons (pv 1) (pa_cons (pe_bltn (v := .ty "str") (u := .type "str") (by rfl) T.b_str (by decide +kernel) rfl) pa_nil))) (pe_one (pe_cmp (pc_din (by first | exact Nat.lt_of_le_of_lt (Nat.add_le_add_left (by decide : 1 ≤ 64) _) hr.units | exact Nat.lt_of_le_of_lt (Nat.add_le_add_left (by decide : 4 ≤ 64) _) hr.units | exact Nat.lt_of_le_of_lt (Nat.add_le_add_left (by decide : 7 ≤ 64) _) hr.units) (pv 1) (pe_fld (pv 0) rfl)) (by rfl)))))), ?_⟩
    obtain ⟨x, dx, d, p, q', kvs, rfl, hx, hd, hp, hn, hq⟩ := hl
    rcases h with ⟨n, rfl, q⟩ | ⟨⟨t0, ty, no⟩, q⟩
    · refine ⟨.str n, rfl, .str n, .ty "str", .type "str", .type "str", true, rfl, .ty _, .base (.str _), kit_ty (by decide +kernel), true, rfl, iteT ?_⟩
      by_cases c : n ∈ L.names
      · rw [decide_eq_true c] at q
        obtain ⟨t, et⟩ := Lib.get_in c
        rcases hp.get (n := n) with ⟨z, _⟩ | ⟨t', v, _, ev, _⟩
        · rw [et] at z
          cases z
        · exact ⟨.str n, rfl, .ref x, rfl, x, C_Library, dx, _, .ref d, rfl, hx, T.k_Library, T.x_Library.n_parts, rfl, d, some v, rfl, .inl ⟨kvs, Sum.inr n, .inl hd, rfl, ev.symm⟩, q⟩
      · rw [decide_eq_false c] at q
        exact ⟨.str n, rfl, .ref x, rfl, x, C_Library, dx, _, .ref d, rfl, hx, T.k_Library, T.x_Library.n_parts, rfl, d, none, rfl, .inl ⟨kvs, Sum.inr n, .inl hd, rfl, (hp.none_of c).symm⟩, q⟩
    · exact ⟨u, rfl, u, .ty "str", t0, .type "str", false, rfl, .ty _, ty, no, false, rfl, iteF q⟩
theorem ok_Library___len__ (T : Txt K mg C_Type C_Library) {f : Addr} {fd : FuncData} (F : Fun K "__len__" "Library.__len__" s_Library___len__ f fd) : FnOk P w K mg base CX0 1 f fd ["self"] (sp_Library___len__ K C_Type C_Library) := by
  have nd := sc_Library___len__.nd
  refine F.ok sc_Library___len__ (fun vs H Q E h => ?_) (fun cdv A outer s H vs Q E hr h => ?_)
  · obtain ⟨v, L, rfl, _⟩ := h
    rfl
  · obtain ⟨v, L, rfl, hl, q⟩ := h
    refine ⟨_, (pss_one (ps_ret (pe_callB call_len (by rfl) T.b_len (by decide +kernel) (pa_cons (pe_fld (pv 0) rfl) pa_nil)))), ?_⟩
    obtain ⟨x, dx, d, p, q', kvs, rfl, hx, hd, hp, hn, hq⟩ := hl
    refine ⟨.ref x, rfl, x, C_Library, dx, _, .ref p, rfl, hx, T.k_Library, T.x_Library.n_names, rfl, .ref p, _, rfl, .inr ⟨_, SqT.of hn, rfl⟩, ?_⟩
    rw [List.length_map, Lib.names, List.length_map]
    exact q
theorem ok_Library___getitem__ (T : Txt K mg C_Type C_Library) (m_Library___contains__ : MetC P w K mg base C_Library "__contains__" 1 ["self", "x"] (sp_Library___contains__ K C_Type C_Library)) {f : Addr} {fd : FuncData} (F : Fun K "__getitem__" "Library.__getitem__" s_Library___getitem__ f fd) : FnOk P w K mg base CX0 2 f fd ["self", "at"] (sp_Library___getitem__ K C_Type C_Library) := by
  have nd := sc_Library___getitem__.nd
  refine F.ok sc_Library___getitem__ (fun vs H Q E h => ?_) (fun cdv A outer s H vs Q E hr h => ?_)
  · obtain ⟨v, n, t, L, rfl, _⟩ := h
    rfl
  · obtain ⟨v, n, t, L, rfl, hl, et, q⟩ := h
    refine ⟨_, (pss_cons (ps_if (pt_cmpR (op_notInO m_Library___contains__ (hr.mono (by first | decide | omega))) (pv 1) (pv 0) (by rfl)) (pss_one ps_never) pss_nil)
      (pss_one (ps_ret (pe_dget (by first | exact Nat.lt_of_le_of_lt (Nat.add_le_add_left (by decide : 1 ≤ 64) _) hr.units | exact Nat.lt_of_le_of_lt (Nat.add_le_add_left (by decide : 4 ≤ 64) _) hr.units | exact Nat.lt_of_le_of_lt (Nat.add_le_add_left (by decide : 7 ≤ 64) _) hr.units) (pe_fld (pv 0) rfl) (pv 1) (fun _ _ => rfl))))), ?_⟩
    have hl0 := hl
    obtain ⟨x, dx, d, p, q', kvs, rfl, hx, hd, hp, hn, hq⟩ := hl
    have mem : n ∈ L.names := List.mem_map.mpr ⟨_, Lib.get_some et, rfl⟩
    refine ⟨.str n, rfl, .ref x, rfl, x, dx, _, rfl, hx, .ref x, .str n, L, rfl, hl0, .inl ⟨n, rfl, _, congrArg V.bl (decide_eq_true mem), false, rfl, iteF ?_⟩⟩
    refine nx_go ?_
    dsimp only
    rcases hp.get (n := n) with ⟨z, _⟩ | ⟨t', v, et', ev, ht⟩
    · rw [et] at z
      cases z
    · rw [et] at et'
      cases et'
      exact ⟨.ref x, rfl, x, C_Library, dx, _, .ref d, rfl, hx, T.k_Library, T.x_Library.n_parts, rfl, .str n, rfl, d, v, rfl, .inl ⟨kvs, Sum.inr n, .inl hd, rfl, ev.symm⟩, q v ht⟩
theorem ok_Library___eq__ (T : Txt K mg C_Type C_Library) {f : Addr} {fd : FuncData} (F : Fun K "__eq__" "Library.__eq__" s_Library___eq__ f fd) : FnOk P w K mg base CX0 1 f fd ["self", "other"] (sp_Library___eq__ K C_Type C_Library) := by
  have nd := sc_Library___eq__.nd
  refine F.ok sc_Library___eq__ (fun vs H Q E h => ?_) (fun cdv A outer s H vs Q E hr h => ?_)
  · obtain ⟨v, u, L, rfl, _⟩ := h
    rfl
  · obtain ⟨v, u, L, rfl, hl, fine, h⟩ := h
    refine ⟨_, (pss_one (ps_ret (pe_and (pe_callB call_isi (by rfl) T.b_isinstance (by decide +kernel) (pa_cons (pv 1) (pa_cons (pe_glob (v := .ref C_Library) rfl T.c_Library rfl) pa_nil))) (pe_one (pe_cmpR (op_eqD hr.units) (pe_fld (pv 0) rfl) (pe_fld (pv 1) rfl) (nomark _)))))), ?_⟩
    obtain ⟨x, dx, d, p, q', kvs, rfl, hx, hd, hp, hn, hq⟩ := hl
    rcases h with ⟨M, hM, fineM, q⟩ | ⟨⟨t0, ty, no⟩, q⟩
    · obtain ⟨y, dy, d', p', r', kvs', rfl, hy, hd', hp', hn', hr'⟩ := hM
      refine ⟨.ref y, rfl, .ref y, .ref C_Library, .ref C_Library, .ref C_Library, true, rfl, .own _, lib_of_ins T.k_Library T.x_Library hy, kit_self _, true, rfl, iteT ?_⟩
      refine ⟨.ref x, rfl, x, C_Library, dx, _, .ref q', rfl, hx, T.k_Library, T.x_Library.n_lines, rfl, .ref y, rfl, y, C_Library, dy, _, .ref r', rfl, hy, T.k_Library, T.x_Library.n_lines, rfl, ?_⟩
      refine ⟨_, _, .tup (SqT.of hq) (dp_textsN _), .tup (SqT.of hr') (dp_textsN _), (shaped_strs fine.lines_ok).2, (shaped_strs fineM.lines_ok).2, ?_⟩
      rw [show PyData.eqv (.tuple (L.lines.map PyData.str)) (.tuple (M.lines.map PyData.str)) = decide (L.lines = M.lines) by rw [PyData.eqv, eqv_texts]]
      exact q
    · refine ⟨u, rfl, u, .ref C_Library, t0, .ref C_Library, false, rfl, .own _, ty, no, false, rfl, iteF ?_⟩
      exact q
end


end My
namespace My
open PySem PySem.Spec PyProof.Rows L2 TL
set_option pp.maxSteps 400
set_option pp.deepTerms false
section
variable {P : Program} {w : World} {K : PySem.W.Frag} {mg : Str → Option Value} {base : Heap} {C_Type : Addr}
theorem ok_is_integer (T : Txt K mg C_Type C_Library) {f : Addr} {fd : FuncData} (F : Fun K "is_integer" "is_integer" s_is_integer f fd) : FnOk P w K mg base CX0 1 f fd ["value"] (sp_is_integer K) := by
  have nd := sc_is_integer.nd
  refine F.ok sc_is_integer (fun vs H Q E h => ?_) (fun cdv A outer s H vs Q E hr h => ?_)
  · obtain ⟨i, rfl, _⟩ := h
    rfl
  · obtain ⟨i, rfl, hi, q⟩ := h
    refine ⟨_, (pss_one (ps_ret (pe_and (pe_callB call_isi (by rfl) T.b_isinstance (by decide +kernel) (pa_cons (pv 0) (pa_cons (pe_bltn (v := .ty "int") (u := .type "int") (by rfl) T.b_int (by decide +kernel) rfl) pa_nil))) (pe_and (pe_not (pe_callB call_isi (by rfl) T.b_isinstance (by decide +kernel) (pa_cons (pv 0) (pa_cons (pe_bltn (v := .ty "bool") (u := .type "bool") (by rfl) T.b_bool (by decide +kernel) rfl) pa_nil)))) (pe_one (pe_cmpR op_lt (pe_callB call_abs (by rfl) T.b_abs (by decide +kernel) (pa_cons (pv 0) pa_nil)) (pe_op op_powW pe_int pe_int) (nomark _))))))), ?_⟩
    refine ⟨.int i, rfl, .int i, .ty "int", .type "int", .type "int", true, rfl, .ty _, .base (.int i), kit_ty (by decide +kernel), true, rfl, iteT ?_⟩
    refine ⟨.int i, rfl, .int i, .ty "bool", .type "int", .type "bool", false, rfl, .ty _, .base (.int i), kit_ty (by decide +kernel), false, rfl, true, rfl, iteT ?_⟩
    refine ⟨.int i, rfl, i, rfl, 10, 60, rfl, rfl, ⟨by decide, by decide +kernel⟩, _, _, rfl, rfl, ?_⟩
    have e : decide ((if (i : Int) < 0 then -(i : Int) else (i : Int)) < 10 ^ 60) = true := decide_eq_true (by rw [if_neg (by omega)]; exact Int.lt_of_le_of_lt (Int.ofNat_le.mpr hi) (by decide +kernel))
    have z := q H (Same.refl H)
    rw [← e] at z
    exact z
end

theorem make_libF {K : PySem.W.Frag} {C D : Addr} {H1 : Hp} {d : Addr} {kvs : List (Key × V)} {L : Lib} {Q : VK} {E : XK} (hd : H1 d = some (.dK kvs)) (hp : IsP C H1 L kvs) (fine : L.Fine)
    (q : ∀ L' x H', List.Perm L' L → sortedS (Lib.names L') = true → Same H1 H' → IsL C D H' L' (.ref x) → (∃ d fs dy, H' x = some (.ins D dy (("_parts", .ref d) :: fs)) ∧ H1 d = none) → Q (.ref x) H') :
    ∀ x dx, H1 x = none → H1 dx = none → dx ≠ x → sp_Library___init__ K C D (.ref x :: ([.ref d] ++ [])) (upd (upd H1 dx (.own x)) x (.ins D dx [])) (fun v H2 => v = .non ∧ Q (.ref x) H2) E := by
  intro x dx hx hdx ne
  have s : Same H1 (upd (upd H1 dx (.own x)) x (.ins D dx [])) := ((Same.refl H1).new hdx).new (by rw [upd_ne (Ne.symm ne)]; exact hx)
  refine ⟨x, dx, .ref d, L, rfl, upd_same, .inr ⟨d, kvs, rfl, s _ _ hd, hp.same s⟩, fine, fun L' H' pm so k hl fr => ⟨rfl, q L' x H' pm so (fun b o hb => k b o (ne_of_none hb hx) (s b o hb)) hl ?_⟩⟩
  obtain ⟨d', fs, dy, e1, e2⟩ := fr
  exact ⟨d', fs, dy, e1, s.free e2⟩
theorem make_lib {K : PySem.W.Frag} {C D : Addr} {H1 : Hp} {d : Addr} {kvs : List (Key × V)} {L : Lib} {Q : VK} {E : XK} (hd : H1 d = some (.dK kvs)) (hp : IsP C H1 L kvs) (fine : L.Fine)
    (q : ∀ L' x H', List.Perm L' L → sortedS (Lib.names L') = true → Same H1 H' → IsL C D H' L' (.ref x) → Q (.ref x) H') :
    ∀ x dx, H1 x = none → H1 dx = none → dx ≠ x → sp_Library___init__ K C D (.ref x :: ([.ref d] ++ [])) (upd (upd H1 dx (.own x)) x (.ins D dx [])) (fun v H2 => v = .non ∧ Q (.ref x) H2) E :=
  make_libF hd hp fine fun L' x H' a b c e _ => q L' x H' a b c e
theorem make_lib0 {K : PySem.W.Frag} {C D : Addr} {H1 : Hp} {Q : VK} {E : XK} (q : ∀ x H', Same H1 H' → IsL C D H' [] (.ref x) → Q (.ref x) H') :
    ∀ x dx, H1 x = none → H1 dx = none → dx ≠ x → sp_Library___init__ K C D (.ref x :: ([] ++ [.non])) (upd (upd H1 dx (.own x)) x (.ins D dx [])) (fun v H2 => v = .non ∧ Q (.ref x) H2) E := by
  intro x dx hx hdx ne
  have s : Same H1 (upd (upd H1 dx (.own x)) x (.ins D dx [])) := ((Same.refl H1).new hdx).new (by rw [upd_ne (Ne.symm ne)]; exact hx)
  refine ⟨x, dx, .non, [], rfl, upd_same, .inl ⟨rfl, rfl⟩, Lib.fine_nil, fun L' H' pm so k hl _ => ⟨rfl, q x H' (fun b o hb => k b o (ne_of_none hb hx) (s b o hb)) ?_⟩⟩
  rw [List.perm_nil.mp pm] at hl
  exact hl
theorem int_small : ∀ n : Nat, n < 64 → (toString ((n : Nat) : Int) : Str).length ≤ 3 := fun n h => (show ∀ n : Fin 64, (toString ((n.val : Nat) : Int) : Str).length ≤ 3 by decide +kernel) ⟨n, h⟩
theorem cut_take (xs : List V) (n : Nat) : cutV xs none (some (n : Int)) = xs.take n := by
  unfold cutV
  rw [HT.sIx_nat, HT.sIx_none, List.drop_zero, Nat.sub_zero]
  by_cases h : n ≤ xs.length
  · rw [Nat.min_eq_left h]
  · rw [Nat.min_eq_right (by omega), List.take_length, List.take_of_length_le (by omega)]
/-- the words za to zz -/
def zwords : List Str := (tl ("abcdefghijklmnopqrstuvwxyz" : Str)).map fun c => ("z" : Str) ++ ⟨#[c]⟩
def sp_Library_with_part (K : PySem.W.Frag) (C D : Addr) : Sp := fun vs H Q _ => ∃ v n u t, ∃ L : Lib, vs = [v, .str n, u] ∧ IsL C D H L v ∧ IsT C H t u ∧ Lib.Fine (L ++ [(n, t)]) ∧
  ∀ L' x H', List.Perm L' (L ++ [(n, t)]) → sortedS (Lib.names L') = true → Same H H' → IsL C D H' L' (.ref x) → Q (.ref x) H'
def sp_fresh_names (K : PySem.W.Frag) (C D : Addr) : Sp := fun vs H Q _ => ∃ v, ∃ n : Nat, ∃ L : Lib, vs = [v, .int n] ∧ IsL C D H L v ∧ n ≤ 8 ∧
  ∀ p H', Same H H' → H' p = some (.tup (((zwords.filter fun x => decide (x ∉ L.names)).take n).map V.str)) → Q (.ref p) H'
def sp_Library___str__ (K : PySem.W.Frag) (C D : Addr) : Sp := fun vs H Q _ => ∃ v, ∃ L : Lib, vs = [v] ∧ IsL C D H L v ∧ L.Fine ∧ (∀ e ∈ L, e.2.places.length ≤ 7) ∧
  ∀ ys H', Same H H' → ys.Nodup → sortedS ys = true → (∀ a, a ∈ ys ↔ ∃ e ∈ L, a ∈ e.2.places) → Q (.str (Str.empty ++ (toString ((L.length : Nat) : Int) : Str) ++ (" parts, " : Str) ++ (toString ((ys.length : Nat) : Int) : Str) ++ (" atoms" : Str))) H'
section
variable {P : Program} {w : World} {K : PySem.W.Frag} {mg : Str → Option Value} {base : Heap} {C_Type C_Library : Addr}
theorem ok_Library___iter__ (T : Txt K mg C_Type C_Library) {f : Addr} {fd : FuncData} (F : Fun K "__iter__" "Library.__iter__" s_Library___iter__ f fd) : FnOkN P w K mg base CX0 1 f fd ["self"] (sp_Library___iter__ K C_Type C_Library) := by
  have nd := sc_Library___iter__.nd
  refine F.okN sc_Library___iter__ (fun n vs H Q E h => ?_) (fun cdv A outer s H vs Q E hr h => ?_)
  · obtain ⟨v, L, rfl, _⟩ := h
    rfl
  · obtain ⟨v, L, rfl, hl, q⟩ := h
    refine ⟨_, (pss_one (ps_ret (pe_callB call_iterT (by rfl) T.b_iter (by decide +kernel) (pa_cons (pe_fld (pv 0) rfl) pa_nil)))), ?_⟩
    obtain ⟨x, dx, d, p, q', kvs, rfl, hx, hd, hp, hn, hq⟩ := hl
    exact ⟨.ref x, rfl, x, C_Library, dx, _, .ref p, rfl, hx, T.k_Library, T.x_Library.n_names, rfl, p, _, rfl, SqT.of hn, fun it n1 n2 => q it p n2 n1 hn⟩
theorem ok_Library___str__ (T : Txt K mg C_Type C_Library) (p_Library_atoms : PrpC P w K mg base C_Library "atoms" 3 ["self"] (sp_Library_atoms K C_Type C_Library)) {f : Addr} {fd : FuncData} (F : Fun K "__str__" "Library.__str__" s_Library___str__ f fd) : FnOk P w K mg base CX0 5 f fd ["self"] (sp_Library___str__ K C_Type C_Library) := by
  have nd := sc_Library___str__.nd
  refine F.ok sc_Library___str__ (fun vs H Q E h => ?_) (fun cdv A outer s H vs Q E hr h => ?_)
  · obtain ⟨v, L, rfl, _⟩ := h
    rfl
  · obtain ⟨v, L, rfl, hl, fine, small, q⟩ := h
    refine ⟨_, (pss_one (ps_ret (pe_joined (PJ.cons (pe_fmt (pe_callB call_len (by rfl) T.b_len (by decide +kernel) (pa_cons (pe_fld (pv 0) rfl) pa_nil))) (PJ.cons pe_str (PJ.cons (pe_fmt (pe_callB call_len (by rfl) T.b_len (by decide +kernel) (pa_cons (pe_propC p_Library_atoms T.k_Library (hr.mono (by first | decide | omega)) (pv 0)) pa_nil))) (PJ.cons pe_str PJ.nil))))))), ?_⟩
    have hl0 := hl
    have few := fine.few
    obtain ⟨x, dx, d, p, q', kvs, rfl, hx, hd, hp, hn, hq⟩ := hl
    refine ⟨.ref x, rfl, x, C_Library, dx, _, .ref p, rfl, hx, T.k_Library, T.x_Library.n_names, rfl, .ref p, _, rfl, .inr ⟨_, SqT.of hn, rfl⟩, ?_⟩
    rw [List.length_map, Lib.names, List.length_map]
    refine .inr ⟨_, rfl, ?_, ?_⟩
    · have : ((L.length : Nat) : Int).natAbs ≤ 8 := by omega
      exact Nat.lt_of_le_of_lt (Nat.log2_le_self _) (by omega)
    have t8 := int_small (L.length) (by omega)
    have u1 := len_app Str.empty (toString ((L.length : Nat) : Int) : Str)
    have u2 := len_app (Str.empty ++ (toString ((L.length : Nat) : Int) : Str)) (" parts, " : Str)
    rw [len_empty] at u1
    rw [show (" parts, " : Str).length = 8 by decide +kernel] at u2
    refine ⟨_, rfl, lt_line (by omega), _, rfl, lt_line (by omega), ?_⟩
    refine ⟨.ref x, rfl, x, dx, _, rfl, hx, .ref x, L, rfl, hl0, fine, small, fun p1 ys H1 s1 hp1 nd so mem l56 => ?_⟩
    refine ⟨.ref p1, _, rfl, .inr ⟨_, SqT.of hp1, rfl⟩, ?_⟩
    rw [List.length_map]
    have t9 := int_small ys.length (by omega)
    have u3 := len_app (Str.empty ++ (toString ((L.length : Nat) : Int) : Str) ++ (" parts, " : Str)) (toString ((ys.length : Nat) : Int) : Str)
    have u4 := len_app (Str.empty ++ (toString ((L.length : Nat) : Int) : Str) ++ (" parts, " : Str) ++ (toString ((ys.length : Nat) : Int) : Str)) (" atoms" : Str)
    rw [show (" atoms" : Str).length = 6 by decide +kernel] at u4
    refine .inr ⟨_, rfl, ?_, _, rfl, lt_line (by omega), _, rfl, lt_line (by omega), q ys H1 s1 nd so mem⟩
    have : ((ys.length : Nat) : Int).natAbs ≤ 56 := by omega
    exact Nat.lt_of_le_of_lt (Nat.log2_le_self _) (by omega)
theorem ok_Library_with_part (T : Txt K mg C_Type C_Library) (p_Library_parts : PrpC P w K mg base C_Library "parts" 1 ["self"] (sp_Library_parts K C_Type C_Library)) (i_Library___init__ : MakC P w K mg base C_Library 3 ["self", "parts"] (sp_Library___init__ K C_Type C_Library)) (c_is_word : CalN P w K mg base "is_word" 1 ["value"] (sp_is_word K)) {f : Addr} {fd : FuncData} (F : Fun K "with_part" "Library.with_part" s_Library_with_part f fd) : FnOk P w K mg base CX0 5 f fd ["self", "name", "wanted"] (sp_Library_with_part K C_Type C_Library) := by
  have nd := sc_Library_with_part.nd
  refine F.ok sc_Library_with_part (fun vs H Q E h => ?_) (fun cdv A outer s H vs Q E hr h => ?_)
  · obtain ⟨v, n, u, t, L, rfl, _⟩ := h
    rfl
  · obtain ⟨v, n, u, t, L, rfl, hl, ht, fine, q⟩ := h
    refine ⟨_, (pss_cons (ps_if (pt_not (pt_val (pe_callN c_is_word (hr.mono (by first | decide | omega)) rfl (pa_cons (pv 1) pa_nil)))) (pss_one ps_never) pss_nil)
      (pss_cons (ps_if (pt_not (pt_val (pe_callB call_isi (by rfl) T.b_isinstance (by decide +kernel) (pa_cons (pv 2) (pa_cons (pe_glob (v := .ref C_Type) rfl T.c_Type rfl) pa_nil))))) (pss_one ps_never) pss_nil)
      (pss_cons (ps_set (i := 3) nd rfl (.inl rfl) (pe_propC p_Library_parts T.k_Library (hr.mono (by first | decide | omega)) (pv 0)))
      (pss_cons (ps_dput (by first | exact Nat.lt_of_le_of_lt (Nat.add_le_add_left (by decide : 1 ≤ 64) _) hr.units | exact Nat.lt_of_le_of_lt (Nat.add_le_add_left (by decide : 4 ≤ 64) _) hr.units | exact Nat.lt_of_le_of_lt (Nat.add_le_add_left (by decide : 7 ≤ 64) _) hr.units) (pv 3) (pv 1) (pv 2) (by rfl))
      (pss_one (ps_ret (pe_makeC i_Library___init__ (hr.mono (by first | decide | omega)) rfl T.c_Library (pa_cons (pv 3) pa_nil)))))))), ?_⟩
    have wn := fine.words (n, t) (List.mem_append_right _ (List.mem_singleton.mpr rfl))
    have nl : 1 ≤ n.length ∧ n.length ≤ 8 := isW_len wn.1
    have fineL : L.Fine := ⟨fun e h => fine.words e (List.mem_append_left _ h), fun e h => fine.fits e (List.mem_append_left _ h), by have := fine.few; rw [List.length_append] at this; omega, by
      have := fine.nodup
      rw [Lib.names, List.map_append, List.nodup_append] at this
      exact this.1⟩
    have l7 : L.length ≤ 7 := by
      have := fine.few
      rw [List.length_append] at this
      exact Nat.le_of_succ_le_succ this
    have out : n ∉ L.names := fun k => by
      have := fine.nodup
      rw [Lib.names, List.map_append, List.nodup_append] at this
      exact this.2.2 n k n (List.mem_singleton.mpr rfl) rfl
    refine ⟨.str n, rfl, .str n, rfl, .inl ⟨n, rfl, by omega, wn.2⟩, fun H1 s1 => ⟨true, congrArg V.bl wn.1, iteF ?_⟩⟩
    refine nx_go ?_
    dsimp only
    have ht1 := IsT.same s1 _ _ ht
    obtain ⟨b, db, _, _, _, rfl, hb, _⟩ := ht1.at
    refine ⟨.ref b, rfl, .ref b, .ref C_Type, .ref C_Type, .ref C_Type, true, rfl, .own _, ty_of_ins T.k_Type T.x_Type hb, kit_self _, true, rfl, iteF ?_⟩
    refine nx_go ?_
    dsimp only
    have hl1 := hl.same s1
    have hl2 := hl1
    obtain ⟨x, dx, d, p, q', kvs, rfl, hx, _⟩ := hl2
    refine ⟨.ref x, rfl, x, dx, _, rfl, hx, .ref x, L, rfl, hl1, fineL, fun D ks H2 s2 nD hD hp => ?_⟩
    refine asg_go2 ?_
    dsimp only
    have kl := hp.len
    have ht2 := IsT.same s2 _ _ ht1
    refine ⟨.ref b, rfl, .ref D, rfl, .str n, rfl, D, _, rfl, .k (k := Sum.inr n) hD (lt_line' (by omega)), ?_⟩
    rw [putK_new _ (hp.none_of out)]
    have hh := held_dk (o := .dK (ks ++ [(Sum.inr n, .ref b)])) hD
    refine nx_go ?_
    dsimp only
    refine ⟨.ref D, rfl, make_lib upd_same ((hp.held hh).app (IsT.held hh _ _ ht2)) fine fun L' y H' pm so sm hl' => q L' y H' pm so ((s1.trans (s2.mut nD)).trans sm) hl'⟩
end


end My
namespace My
open PySem PySem.Spec PyProof.Rows L2 TL
set_option pp.maxSteps 400
set_option pp.deepTerms false
/-! ### libraries: parts of one another, what both have, what one has alone -/
/-- whether a library has this part with this type -/
def Lib.has (M : Lib) (e : Str × Ty) : Bool := match M.get e.1 with
  | some t => decide (t.text = e.2.text)
  | none => false
def sp__has_part (K : PySem.W.Frag) (C D : Addr) : Sp := fun vs H Q _ => ∃ v n u t, ∃ M : Lib, vs = [v, .str n, u] ∧ IsL C D H M v ∧ IsT C H t u ∧ ∀ H', Same H H' → Q (.bl (M.has (n, t))) H'
def sp_Library_is_part_of (K : PySem.W.Frag) (C D : Addr) : Sp := fun vs H Q _ => ∃ v u, ∃ L M : Lib, vs = [v, u] ∧ IsL C D H L v ∧ IsL C D H M u ∧ L.Fine ∧ M.Fine ∧ ∀ H', Same H H' → Q (.bl (L.lines.all fun x => decide (x ∈ M.lines))) H'
def sp_Library___and__ (K : PySem.W.Frag) (C D : Addr) : Sp := fun vs H Q _ => ∃ v u, ∃ L M : Lib, vs = [v, u] ∧ IsL C D H L v ∧ IsL C D H M u ∧ L.Fine ∧ M.Fine ∧ ∀ N x H', List.Perm N (L.filter fun e => M.has e) → sortedS (Lib.names N) = true → Same H H' → IsL C D H' N (.ref x) → Q (.ref x) H'
def sp_Library___sub__ (K : PySem.W.Frag) (C D : Addr) : Sp := fun vs H Q _ => ∃ v u, ∃ L M : Lib, vs = [v, u] ∧ IsL C D H L v ∧ IsL C D H M u ∧ L.Fine ∧ M.Fine ∧ ∀ N x H', List.Perm N (L.filter fun e => !M.has e) → sortedS (Lib.names N) = true → Same H H' → IsL C D H' N (.ref x) → Q (.ref x) H'
theorem Lib.has_mem {M : Lib} (fM : M.Fine) {e : Str × Ty} : M.has e = true ↔ ∃ t, (e.1, t) ∈ M ∧ t.text = e.2.text := by
  unfold Lib.has
  by_cases c : e.1 ∈ M.names
  · obtain ⟨t, et⟩ := Lib.get_in c
    rw [et]
    have em := Lib.get_some et
    show decide (t.text = e.2.text) = true ↔ _
    constructor
    · intro h
      exact ⟨t, em, of_decide_eq_true h⟩
    · rintro ⟨t', h1, h2⟩
      have := Lib.get_mem fM.nodup h1
      rw [show (e.1, t').1 = e.1 from rfl, et] at this
      cases this
      exact decide_eq_true h2
  · rw [Lib.get_none c]
    refine ⟨fun h => (nomatch h), fun ⟨t, h1, _⟩ => absurd (List.mem_map.mpr ⟨_, h1, rfl⟩) c⟩
theorem inV_strs {a : Str} {ys : List Str} : inV (.str a) (ys.map V.str) = decide (a ∈ ys) := by
  unfold inV
  rw [List.any_map, Bool.eq_iff_iff, List.any_eq_true, decide_eq_true_iff]
  constructor
  · rintro ⟨y, h1, h2⟩
    have : y = a := by simpa [eqV] using h2
    rw [← this]
    exact h1
  · intro h
    exact ⟨a, h, by simp [eqV]⟩
theorem flat_strs : ∀ ys : List Str, (ys.map V.str).all flatV = true := fun ys => List.all_eq_true.mpr fun y hy => by
  obtain ⟨z, _, rfl⟩ := List.mem_map.mp hy
  rfl
theorem Lib.Fine.filter {L : Lib} (f : L.Fine) (p : Str × Ty → Bool) : Lib.Fine (L.filter p) := ⟨fun e h => f.words e (List.mem_filter.mp h).1, fun e h => f.fits e (List.mem_filter.mp h).1, Nat.le_trans (List.length_filter_le ..) f.few, f.nodup.sublist (List.Sublist.map _ (List.filter_sublist ..))⟩
section
variable {P : Program} {w : World} {K : PySem.W.Frag} {mg : Str → Option Value} {base : Heap} {C_Type C_Library : Addr}
theorem ok__has_part (T : Txt K mg C_Type C_Library) (m_Library___contains__ : MetC P w K mg base C_Library "__contains__" 1 ["self", "x"] (sp_Library___contains__ K C_Type C_Library)) (m_Library___getitem__ : MetC P w K mg base C_Library "__getitem__" 2 ["self", "at"] (sp_Library___getitem__ K C_Type C_Library)) (m_Type___eq__ : MetC P w K mg base C_Type "__eq__" 1 ["self", "other"] (sp_Type_eqX K C_Type)) {f : Addr} {fd : FuncData} (F : Fun K "_has_part" "_has_part" s__has_part f fd) : FnOk P w K mg base CX0 4 f fd ["library", "name", "wanted"] (sp__has_part K C_Type C_Library) := by
  have nd := sc__has_part.nd
  refine F.ok sc__has_part (fun vs H Q E h => ?_) (fun cdv A outer s H vs Q E hr h => ?_)
  · obtain ⟨v, n, u, t, M, rfl, _⟩ := h
    rfl
  · obtain ⟨v, n, u, t, M, rfl, hM, ht, q⟩ := h
    refine ⟨_, (pss_one (ps_ret (pe_and (pe_cmpR (op_inO m_Library___contains__ (hr.mono (by first | decide | omega))) (pv 1) (pv 0) (by rfl)) (pe_one (pe_cmpR (op_eqC m_Type___eq__ (hr.mono (by first | decide | omega)) T.x_Type.nfirst) (pe_ixO m_Library___getitem__ (hr.mono (by first | decide | omega)) (pv 0) (pv 1) T.x_Library.fn_getitem) (pv 2) (nomark _)))))), ?_⟩
    obtain ⟨x, dx, d, p, q', kvs, rfl, hx, hd, hp, hn, hq⟩ := id hM
    refine ⟨.str n, rfl, .ref x, rfl, x, dx, _, rfl, hx, .ref x, .str n, M, rfl, hM, .inl ⟨n, rfl, _, rfl, ?_⟩⟩
    dsimp only
    refine ⟨_, rfl, ?_⟩
    simp only [Bool.false_eq_true, if_false]
    by_cases c : n ∈ M.names
    · rw [if_pos (decide_eq_true c)]
      obtain ⟨t', et⟩ := Lib.get_in c
      refine ⟨.ref x, rfl, .str n, rfl, x, dx, _, rfl, hx, .ref x, n, t', M, rfl, hM, et, fun u' hu => ?_⟩
      obtain ⟨b, db, _, _, _, rfl, hb, _⟩ := hu.at
      obtain ⟨b2, db2, _, _, _, rfl, hb2, _⟩ := ht.at
      refine ⟨.ref b2, rfl, b, db, _, b2, db2, _, rfl, rfl, hb, hb2, .ref b, .ref b2, t', rfl, hu, .inl ⟨t, ht, fun H' s => ?_⟩⟩
      have z := q H' s
      rw [Lib.has, et] at z
      exact z
    · rw [if_neg (by simpa using c)]
      have z := q H (Same.refl H)
      rw [Lib.has, Lib.get_none c] at z
      exact z
theorem ok_Library___and__ (T : Txt K mg C_Type C_Library) (i_Library___init__ : MakC P w K mg base C_Library 3 ["self", "parts"] (sp_Library___init__ K C_Type C_Library)) (c__has_part : CalN P w K mg base "_has_part" 4 ["library", "name", "wanted"] (sp__has_part K C_Type C_Library)) {f : Addr} {fd : FuncData} (F : Fun K "__and__" "Library.__and__" s_Library___and__ f fd) : FnOk P w K mg base CX0 5 f fd ["self", "other"] (sp_Library___and__ K C_Type C_Library) := by
  have nd := sc_Library___and__.nd
  refine F.ok sc_Library___and__ (fun vs H Q E h => ?_) (fun cdv A outer s H vs Q E hr h => ?_)
  · obtain ⟨v, u, L, M, rfl, _⟩ := h
    rfl
  · obtain ⟨v, u, L, M, rfl, hL, hM, fL, fM, q⟩ := h
    refine ⟨_, (pss_cons (ps_if (pt_not (pt_val (pe_callB call_isi (by rfl) T.b_isinstance (by decide +kernel) (pa_cons (pv 1) (pa_cons (pe_glob (v := .ref C_Library) rfl T.c_Library rfl) pa_nil))))) (pss_one ps_never) pss_nil)
      (pss_one (ps_ret (pe_makeC i_Library___init__ (hr.mono (by first | decide | omega)) rfl T.c_Library (pa_cons (pe_dcD (own := [("name", 2)]) (by rfl) nd (pi_tup (pe_fld (pv 0) rfl)) (blkOk_by (own := [("name", 2)]) (N := ["self", "other", "name"]) (sc := (defScope s_Library___and__)) (by decide +kernel)) (fun _ _ _ _ _ => pg_name (i := 2) nd rfl (Or.inl rfl)) (fun _ _ _ _ _ => pts_one (pt_val (pe_callN c__has_part (hr.mono (by first | decide | omega)) rfl (pa_cons (pv 1) (pa_cons (pv 2) (pa_cons (pe_dget (by first | exact Nat.lt_of_le_of_lt (Nat.add_le_add_left (by decide : 1 ≤ 64) _) hr.units | exact Nat.lt_of_le_of_lt (Nat.add_le_add_left (by decide : 4 ≤ 64) _) hr.units | exact Nat.lt_of_le_of_lt (Nat.add_le_add_left (by decide : 7 ≤ 64) _) hr.units) (pe_fld (pv 0) rfl) (pv 2) (fun _ _ => rfl)) pa_nil)))))) (fun _ _ _ _ _ => (pv 2)) (fun _ _ _ _ _ => (pe_dget (by first | exact Nat.lt_of_le_of_lt (Nat.add_le_add_left (by decide : 1 ≤ 64) _) hr.units | exact Nat.lt_of_le_of_lt (Nat.add_le_add_left (by decide : 4 ≤ 64) _) hr.units | exact Nat.lt_of_le_of_lt (Nat.add_le_add_left (by decide : 7 ≤ 64) _) hr.units) (pe_fld (pv 0) rfl) (pv 2) (fun _ _ => rfl)))) pa_nil))))), ?_⟩
    obtain ⟨x, dx, d, p, q', kvs, rfl, hx, hd, hp, hn, hq⟩ := id hL
    obtain ⟨y, dy, d2, p2, q2, kvs2, rfl, hy, hd2, hp2, hn2, hq2⟩ := id hM
    have few := fL.few
    refine ⟨.ref y, rfl, .ref y, .ref C_Library, .ref C_Library, .ref C_Library, true, rfl, .own _, lib_of_ins T.k_Library T.x_Library hy, kit_self _, true, rfl, iteF ?_⟩
    refine nx_go ?_
    dsimp only
    refine ⟨.ref x, rfl, x, C_Library, dx, _, .ref p, rfl, hx, T.k_Library, T.x_Library.n_names, rfl, p, rfl, ⟨_, SqT.of hn⟩, fun D hD => ?_⟩
    refine dc_tup (xs := L.names.map V.str) (fun i H' => ∃ ks, H' D = some (.dK ks) ∧ IsP C_Type H' ((L.take i).filter fun e => M.has e) ks ∧ Same H H') ?_ (fun i H' _ hP => ?_) (fun i z H' hz hP => ?_) (fun H' hP => ?_)
    · exact ⟨[], upd_same, by rw [List.take_zero]; rfl, (Same.refl _).mut hD⟩
    · obtain ⟨_, _, _, s4⟩ := hP
      exact SqT.of (s4 _ _ hn)
    · obtain ⟨ks, hD1, hp1, s4⟩ := hP
      obtain ⟨e, he, rfl⟩ := Lib.names_at hz
      have io := lt_of_get he
      obtain ⟨v, ev, ht⟩ := (hp.same s4).val_of fL.nodup (List.mem_of_getElem? he)
      have g : DGet H' d (.str e.1) (some v) := .inl ⟨kvs, Sum.inr e.1, .inl (s4 _ _ hd), rfl, ev.symm⟩
      have kl := hp1.len
      have fl := List.length_filter_le (fun e => M.has e) (L.take i)
      rw [List.length_take] at fl
      refine ⟨rfl, ?_⟩
      refine ⟨.ref y, rfl, .str e.1, rfl, .ref x, rfl, x, C_Library, dx, _, .ref d, rfl, s4 _ _ hx, T.k_Library, T.x_Library.n_parts, rfl, .str e.1, rfl, d, v, rfl, g, .ref y, e.1, v, e.2, M, rfl, hM.same s4, ht, fun H2 s5 => ⟨M.has (e.1, e.2), rfl, ?_⟩⟩
      dsimp only
      by_cases c : M.has (e.1, e.2) = true
      · rw [if_pos c]
        have g2 : DGet H2 d (.str e.1) (some v) := .inl ⟨kvs, Sum.inr e.1, .inl (s5 _ _ (s4 _ _ hd)), rfl, ev.symm⟩
        refine ⟨.str e.1, rfl, .ref x, rfl, x, C_Library, dx, _, .ref d, rfl, s5 _ _ (s4 _ _ hx), T.k_Library, T.x_Library.n_parts, rfl, .str e.1, rfl, d, v, rfl, g2, _, Sum.inr e.1, rfl, s5 _ _ hD1, lt_line' (by omega), ks ++ [(Sum.inr e.1, v)], ?_, ?_, (s4.trans s5).mut hD⟩
        · rw [upd_same, putK_new _ (hp1.none_of fun k => Lib.take_out fL.nodup he (by
            obtain ⟨e', h1, h2⟩ := List.mem_map.mp k
            exact List.mem_map.mpr ⟨e', (List.mem_filter.mp h1).1, h2⟩))]
        · have hh := held_dk (o := .dK (putK ks (Sum.inr e.1) v)) (s5 _ _ hD1)
          rw [take_next he, List.filter_append, List.filter_cons_of_pos (by simpa using c), List.filter_nil]
          exact ((hp1.same s5).held hh).app (IsT.held hh _ _ (IsT.same s5 _ _ ht))
      · rw [if_neg c]
        refine ⟨ks, s5 _ _ hD1, ?_, s4.trans s5⟩
        rw [take_next he, List.filter_append, List.filter_cons_of_neg (by simpa using c), List.filter_nil, List.append_nil]
        exact hp1.same s5
    · obtain ⟨ks, hD1, hp1, s4⟩ := hP
      rw [List.length_map, Lib.names, List.length_map, List.take_length] at hp1
      exact make_lib hD1 hp1 (fL.filter _) fun N x' H2 pm so s5 hN => q N x' H2 pm so (s4.trans s5) hN
theorem ok_Library___sub__ (T : Txt K mg C_Type C_Library) (i_Library___init__ : MakC P w K mg base C_Library 3 ["self", "parts"] (sp_Library___init__ K C_Type C_Library)) (c__has_part : CalN P w K mg base "_has_part" 4 ["library", "name", "wanted"] (sp__has_part K C_Type C_Library)) {f : Addr} {fd : FuncData} (F : Fun K "__sub__" "Library.__sub__" s_Library___sub__ f fd) : FnOk P w K mg base CX0 5 f fd ["self", "other"] (sp_Library___sub__ K C_Type C_Library) := by
  have nd := sc_Library___sub__.nd
  refine F.ok sc_Library___sub__ (fun vs H Q E h => ?_) (fun cdv A outer s H vs Q E hr h => ?_)
  · obtain ⟨v, u, L, M, rfl, _⟩ := h
    rfl
  · obtain ⟨v, u, L, M, rfl, hL, hM, fL, fM, q⟩ := h
    refine ⟨_, (pss_cons (ps_if (pt_not (pt_val (pe_callB call_isi (by rfl) T.b_isinstance (by decide +kernel) (pa_cons (pv 1) (pa_cons (pe_glob (v := .ref C_Library) rfl T.c_Library rfl) pa_nil))))) (pss_one ps_never) pss_nil)
      (pss_cons (ps_setLcD (i := 2) (own := [("name", 3)]) (by rfl) nd rfl rfl (sw_true rfl rfl rfl (by decide +kernel)) (pi_tup (pe_fld (pv 0) rfl)) (blkOk_by (own := [("name", 3)]) (N := ["self", "other", "left", "name"]) (sc := (defScope s_Library___sub__)) (by decide +kernel)) (fun _ _ _ _ _ => pg_name (i := 3) nd rfl (Or.inl rfl)) (fun _ _ _ _ _ => pts_one (pt_not (pt_val (pe_callN c__has_part (hr.mono (by first | decide | omega)) rfl (pa_cons (pv 1) (pa_cons (pv 3) (pa_cons (pe_dget (by first | exact Nat.lt_of_le_of_lt (Nat.add_le_add_left (by decide : 1 ≤ 64) _) hr.units | exact Nat.lt_of_le_of_lt (Nat.add_le_add_left (by decide : 4 ≤ 64) _) hr.units | exact Nat.lt_of_le_of_lt (Nat.add_le_add_left (by decide : 7 ≤ 64) _) hr.units) (pe_fld (pv 0) rfl) (pv 3) (fun _ _ => rfl)) pa_nil))))))) (fun _ _ _ _ _ => (pv 3)))
      (pss_one (ps_ret (pe_makeC i_Library___init__ (hr.mono (by first | decide | omega)) rfl T.c_Library (pa_cons (pe_dcD (own := [("name", 3)]) (by rfl) nd (pi_list (pv 2)) (blkOk_by (own := [("name", 3)]) (N := ["self", "other", "left", "name"]) (sc := (defScope s_Library___sub__)) (by decide +kernel)) (fun _ _ _ _ _ => pg_name (i := 3) nd rfl (Or.inl rfl)) (fun _ _ _ _ _ => pts_nil) (fun _ _ _ _ _ => (pv 3)) (fun _ _ _ _ _ => (pe_dget (by first | exact Nat.lt_of_le_of_lt (Nat.add_le_add_left (by decide : 1 ≤ 64) _) hr.units | exact Nat.lt_of_le_of_lt (Nat.add_le_add_left (by decide : 4 ≤ 64) _) hr.units | exact Nat.lt_of_le_of_lt (Nat.add_le_add_left (by decide : 7 ≤ 64) _) hr.units) (pe_fld (pv 0) rfl) (pv 3) (fun _ _ => rfl)))) pa_nil)))))), ?_⟩
    obtain ⟨x, dx, d, p, q', kvs, rfl, hx, hd, hp, hn, hq⟩ := id hL
    obtain ⟨y, dy, d2, p2, q2, kvs2, rfl, hy, hd2, hp2, hn2, hq2⟩ := id hM
    have few := fL.few
    refine ⟨.ref y, rfl, .ref y, .ref C_Library, .ref C_Library, .ref C_Library, true, rfl, .own _, lib_of_ins T.k_Library T.x_Library hy, kit_self _, true, rfl, iteF ?_⟩
    refine nx_go ?_
    dsimp only
    refine cut_set (fun v H' => ∃ D, v = .ref D ∧ H' D = some (.lst ((Lib.names (L.filter fun e => !M.has e)).map V.str)) ∧ Same H H') (fun Q' q' => ?_) ?_
    · refine ⟨.ref x, rfl, x, C_Library, dx, _, .ref p, rfl, hx, T.k_Library, T.x_Library.n_names, rfl, p, rfl, ⟨_, SqT.of hn⟩, fun D hD => ?_⟩
      refine lc_tup (xs := L.names.map V.str) (fun i H' => H' D = some (.lst ((Lib.names ((L.take i).filter fun e => !M.has e)).map V.str)) ∧ Same H H') ⟨by rw [upd_same, List.take_zero]; rfl, (Same.refl H).mut hD⟩ (fun i H' _ hP => SqT.of (hP.2 _ _ hn)) (fun i z H' hz hP => ?_) (fun H' hP => ?_)
      · obtain ⟨hD1, s4⟩ := hP
        obtain ⟨e, he, rfl⟩ := Lib.names_at hz
        have io := lt_of_get he
        obtain ⟨v, ev, ht⟩ := (hp.same s4).val_of fL.nodup (List.mem_of_getElem? he)
        have g : DGet H' d (.str e.1) (some v) := .inl ⟨kvs, Sum.inr e.1, .inl (s4 _ _ hd), rfl, ev.symm⟩
        have fl := List.length_filter_le (fun e => !M.has e) (L.take i)
        rw [List.length_take] at fl
        refine ⟨rfl, ?_⟩
        refine ⟨.ref y, rfl, .str e.1, rfl, .ref x, rfl, x, C_Library, dx, _, .ref d, rfl, s4 _ _ hx, T.k_Library, T.x_Library.n_parts, rfl, .str e.1, rfl, d, v, rfl, g, .ref y, e.1, v, e.2, M, rfl, hM.same s4, ht, fun H2 s5 => ⟨M.has (e.1, e.2), rfl, ?_⟩⟩
        dsimp only
        by_cases c : M.has (e.1, e.2) = true
        · rw [c]
          simp only [Bool.not_true, Bool.false_eq_true, if_false]
          refine ⟨?_, s4.trans s5⟩
          rw [s5 _ _ hD1, take_next he, List.filter_append, List.filter_cons_of_neg (by simpa using c), List.filter_nil, List.append_nil]
        · have c' : M.has (e.1, e.2) = false := by simpa using c
          rw [c']
          simp only [Bool.not_false, if_true]
          refine ⟨.str e.1, rfl, _, s5 _ _ hD1, lt_line' ?_, ?_, (s4.trans s5).mut hD⟩
          · rw [List.length_map, Lib.names, List.length_map]
            omega
          · rw [upd_same, take_next he, List.filter_append, List.filter_cons_of_pos (by simpa using c'), List.filter_nil, Lib.names, Lib.names, List.map_append, List.map_append]
            rfl
      · obtain ⟨hD1, s4⟩ := hP
        rw [List.length_map, show L.names.length = L.length from List.length_map .., List.take_length] at hD1
        exact q' _ _ ⟨D, rfl, hD1, s4⟩
    rintro v H1 ⟨D, rfl, hD, s1⟩
    refine ⟨.ref D, rfl, D, rfl, ⟨_, SqL.of hD⟩, fun D2 hD2 => ?_⟩
    have fN := fL.filter (fun e => !M.has e)
    have subN : ∀ e ∈ L.filter (fun e => !M.has e), e ∈ L := fun e h => (List.mem_filter.mp h).1
    generalize (L.filter fun e => !M.has e) = N at hD fN subN q
    have fewN := fN.few
    refine dc_list (xs := (Lib.names N).map V.str) (fun i H' => ∃ ks, H' D2 = some (.dK ks) ∧ IsP C_Type H' (N.take i) ks ∧ Same H1 H') ?_ (fun i H' _ hP => ?_) (fun i z H' hz hP => ?_) (fun H' hP => ?_)
    · exact ⟨[], upd_same, by rw [List.take_zero]; rfl, (Same.refl _).mut hD2⟩
    · obtain ⟨_, _, _, s4⟩ := hP
      exact SqL.of (s4 _ _ hD)
    · obtain ⟨ks, hD1, hp1, s4⟩ := hP
      obtain ⟨e, he, rfl⟩ := Lib.names_at hz
      have io := lt_of_get he
      have s14 := s1.trans s4
      obtain ⟨v, ev, ht⟩ := (hp.same s14).val_of fL.nodup (subN _ (List.mem_of_getElem? he))
      have g : DGet H' d (.str e.1) (some v) := .inl ⟨kvs, Sum.inr e.1, .inl (s14 _ _ hd), rfl, ev.symm⟩
      have kl := hp1.len
      rw [List.length_take] at kl
      refine ⟨rfl, tyes ?_⟩
      refine ⟨.str e.1, rfl, .ref x, rfl, x, C_Library, dx, _, .ref d, rfl, s14 _ _ hx, T.k_Library, T.x_Library.n_parts, rfl, .str e.1, rfl, d, v, rfl, g, _, Sum.inr e.1, rfl, hD1, lt_line' (by omega), ks ++ [(Sum.inr e.1, v)], ?_, ?_, s4.mut hD2⟩
      · rw [upd_same, putK_new _ (hp1.none_of (Lib.take_out fN.nodup he))]
      · have hh := held_dk (o := .dK (putK ks (Sum.inr e.1) v)) hD1
        rw [take_next he]
        exact (hp1.held hh).app (IsT.held hh _ _ ht)
    · obtain ⟨ks, hD1, hp1, s4⟩ := hP
      rw [List.length_map, Lib.names, List.length_map, List.take_length] at hp1
      exact make_lib hD1 hp1 fN fun N' x' H2 pm so s5 hN => q N' x' H2 pm so ((s1.trans s4).trans s5) hN
end


end My
namespace My
open PySem PySem.Spec PyProof.Rows L2 TL
set_option pp.maxSteps 400
set_option pp.deepTerms false
theorem asg_go {i : Nat} {x : V} {σ : L2.St} {H : Hp} {D : Ends} (h : D.nx (σ.set i (some x)) H) : gName i x σ H D.nx := h
/-! ### kinds as the law has them: nested tuples -/
mutual
def IsK (H : Hp) : Ty → V → Prop
  | .mk i a, v => ∃ p q rs, v = .ref p ∧ H p = some (.tup [.ref q, .str a]) ∧ H q = some (.tup rs) ∧ IsKs H i rs
def IsKs (H : Hp) : List Ty → List V → Prop
  | [], rs => rs = []
  | t :: r, rs => ∃ v vs, rs = v :: vs ∧ IsK H t v ∧ IsKs H r vs
end
mutual
theorem IsK.held {H H' : Hp} (s : Held H H') : ∀ (t : Ty) (v : V), IsK H t v → IsK H' t v
  | .mk i a, v, h => by
    rw [IsK] at h ⊢
    obtain ⟨p, q, rs, e, hp, hq, hi⟩ := h
    exact ⟨p, q, rs, e, s _ _ hp trivial, s _ _ hq trivial, IsKs.held s i rs hi⟩
theorem IsKs.held {H H' : Hp} (s : Held H H') : ∀ (l : List Ty) (rs : List V), IsKs H l rs → IsKs H' l rs
  | [], rs, h => by
    rw [IsKs] at h ⊢
    exact h
  | t :: r, rs, h => by
    rw [IsKs] at h ⊢
    obtain ⟨v, vs, e, h1, h2⟩ := h
    exact ⟨v, vs, e, IsK.held s t v h1, IsKs.held s r vs h2⟩
end
theorem IsK.at {H : Hp} {t : Ty} {v : V} (h : IsK H t v) : ∃ p q rs, v = .ref p ∧ H p = some (.tup [.ref q, .str t.atom]) ∧ H q = some (.tup rs) ∧ IsKs H t.ins rs := by
  cases t with
  | mk i a =>
    rw [IsK] at h
    exact h
theorem IsKs.get {H : Hp} : ∀ {l : List Ty} {rs : List V} {i : Nat} {v : V}, IsKs H l rs → rs[i]? = some v → ∃ t, l[i]? = some t ∧ IsK H t v
  | [], rs, i, v, h, e => by
    rw [IsKs] at h
    rw [h] at e
    cases e
  | t :: r, rs, i, v, h, e => by
    rw [IsKs] at h
    obtain ⟨w, ws, rfl, h1, h2⟩ := h
    cases i with
    | zero => exact ⟨t, rfl, by cases e; exact h1⟩
    | succ i => exact IsKs.get (l := r) (i := i) h2 e
theorem IsKs.len {H : Hp} : ∀ {l : List Ty} {rs : List V}, IsKs H l rs → rs.length = l.length
  | [], rs, h => by
    rw [IsKs] at h
    rw [h]
    rfl
  | t :: r, rs, h => by
    rw [IsKs] at h
    obtain ⟨w, ws, rfl, h1, h2⟩ := h
    rw [List.length_cons, IsKs.len h2, List.length_cons]
theorem IsKs.nil {H : Hp} : IsKs H [] [] := by rw [IsKs]
theorem IsKs.cons {H : Hp} {t : Ty} {l : List Ty} {v : V} {rs : List V} (h : IsK H t v) (k : IsKs H l rs) : IsKs H (t :: l) (v :: rs) := by
  rw [IsKs]
  exact ⟨v, rs, rfl, h, k⟩
theorem IsKs.app {H : Hp} : ∀ {l m : List Ty} {rs ss : List V}, IsKs H l rs → IsKs H m ss → IsKs H (l ++ m) (rs ++ ss)
  | [], m, rs, ss, h, k => by
    rw [IsKs] at h
    rw [h]
    exact k
  | t :: r, m, rs, ss, h, k => by
    rw [IsKs] at h
    obtain ⟨w, ws, rfl, h1, h2⟩ := h
    rw [List.cons_append, IsKs]
    exact ⟨w, ws ++ ss, rfl, h1, IsKs.app h2 k⟩
theorem Ext.held {d : Addr} {H H' : Hp} (e : Ext d H H') (D : IsDice H d) : Held H H' := fun b o hb f => by
  refine e b o (fun z => ?_) hb
  obtain ⟨x, y, u, hd⟩ := D
  rw [z, hd] at hb
  cases hb
  exact f
theorem Held.trans {H H1 H2 : Hp} (a : Held H H1) (b : Held H1 H2) : Held H H2 := fun x o h f => b x o (a x o h f) f
theorem Ty.take_places (l : List Ty) (i : Nat) : (Ty.placesL (l.take i)).length ≤ (Ty.placesL l).length := by
  have e : Ty.placesL l = Ty.placesL (l.take i) ++ Ty.placesL (l.drop i) := by rw [← Ty.placesL_append, List.take_append_drop]
  rw [e, List.length_append]
  exact Nat.le_add_right _ _
def spr__law_atoms_of (n : Nat) (K : PySem.W.Frag) : Sp := fun vs H Q _ => ∃ v t, vs = [v] ∧ IsK H t v ∧ t.order < n ∧ t.places.length ≤ 1000 ∧ ∀ p H', Same H H' → H p = none → H' p = some (.lst (t.places.map V.str)) → Q (.ref p) H'
def sp__law_atoms_of (K : PySem.W.Frag) : Sp := spr__law_atoms_of 6 K
def spr__law_made_kind (n : Nat) (K : PySem.W.Frag) (C : Addr) : Sp := fun vs H Q _ => ∃ v t, vs = [v] ∧ IsK H t v ∧ t.order < n ∧ t.Fits ∧ Made C H Q t
def sp__law_made_kind (K : PySem.W.Frag) (C : Addr) : Sp := spr__law_made_kind 6 K C
section
variable {P : Program} {w : World} {K : PySem.W.Frag} {mg : Str → Option Value} {base : Heap} {C_Type : Addr}
theorem ok__law_atoms_of (T : Txt K mg C_Type C_Library) {f : Addr} {fd : FuncData} (F : Fun K "_law_atoms_of" "_law_atoms_of" s__law_atoms_of f fd) (M : mg "_law_atoms_of" = some (.ref f)) (B : Binds K fd ["_law_kind_here"] []) : ∀ n : Nat, FnOk P w K mg base CX0 (1 + n) f fd ["_law_kind_here"] (spr__law_atoms_of n K)
  | 0 => by
    refine F.ok sc__law_atoms_of (fun vs H Q E h => ?_) (fun cdv A outer s H vs Q E hr h => ?_) <;> (obtain ⟨_, _, _, _, z, _⟩ := h; exact absurd z (Nat.not_lt_zero _))
  | n + 1 => by
    have ih := ok__law_atoms_of T F M B n
    have C_self : CalN P w K mg base "_law_atoms_of" (1 + n) ["_law_kind_here"] (spr__law_atoms_of n K) := ⟨f, fd, ih, M, F.kp, B⟩
    have nd := sc__law_atoms_of.nd
    refine F.ok sc__law_atoms_of (fun vs H Q E h => ?_) (fun cdv A outer s H vs Q E hr h => ?_)
    · obtain ⟨v, t, rfl, _⟩ := h
      rfl
    · obtain ⟨v, t, rfl, ht, lo, fp, q⟩ := h
      have hr : Room (1 + n) (A.deeper (envOfC "_law_atoms_of" (defScope s__law_atoms_of) s.heap.objs.size f cdv)) := by
        have e : 1 + n = Nat.add 1 n := rfl
        exact hr
      refine ⟨_, (pss_cons (ps_set (i := 1) nd rfl (.inl rfl) (pe_lst pa_nil))
      (pss_cons (ps_for PassesOwn.never rfl (pi_tup (pe_ix ix_tup (pv 0) pe_int (fun _ _ => rfl))) (pg_name (i := 2) nd rfl (.inl rfl)) (pss_one (ps_set (i := 1) nd rfl (.inl rfl) (pe_op op_cat (pv 1) (pe_callN C_self (hr.mono (by first | decide | omega)) rfl (pa_cons (pv 2) pa_nil))))))
      (pss_one (ps_ret (pe_op op_cat (pv 1) (pe_lst (pa_cons (pe_ix ix_tup (pv 0) pe_int (fun _ _ => rfl)) pa_nil))))))), ?_⟩
      obtain ⟨p, q', rs, rfl, hp, hq, hk⟩ := ht.at
      have lr := hk.len
      have eo : t.order = Ty.orderL t.ins := by cases t; rw [Ty.order]; rfl
      have ep := Ty.places_of t
      have len : (Ty.placesL t.ins).length + 1 = t.places.length := by rw [ep, List.length_append]; rfl
      refine ⟨Nat.zero_le _, fun l1 hl1 => ?_⟩
      have s1 : Same H (upd H l1 (.lst [])) := (Same.refl H).new hl1
      refine asg_go ?_
      dsimp only
      refine cut_for (fun σ' H' => ∃ l s2, σ' = [some (.ref p), some (.ref l), s2] ∧ H' l = some (.lst ((Ty.placesL t.ins).map V.str)) ∧ H l = none ∧ Same H H') (fun N hN => ?_) ?_
      · refine ⟨.ref p, rfl, p, _, 0, _, rfl, rfl, SqT.of (s1 _ _ hp), rfl, q', rfl, ⟨rs, SqT.of (s1 _ _ hq)⟩, ?_⟩
        refine for_tup (xs := rs) (fun i σ' H' => ∃ l s2, σ' = [some (.ref p), some (.ref l), s2] ∧ H' l = some (.lst ((Ty.placesL (t.ins.take i)).map V.str)) ∧ H l = none ∧ Same H H') ?_ (fun i σ' H' _ hP => ?_) (fun i y σ' H' hy hP => ?_) (fun σ' H' hP => ?_)
        · exact ⟨l1, none, rfl, by rw [upd_same, List.take_zero, Ty.placesL_nil]; rfl, hl1, s1⟩
        · obtain ⟨_, _, _, _, _, s2⟩ := hP
          exact SqT.of (s2 _ _ hq)
        · obtain ⟨l, s2, rfl, hl, nl, s3⟩ := hP
          obtain ⟨s, es, hs⟩ := hk.get hy
          have sm := List.mem_of_getElem? es
          have lo' : s.order < n := by
            have := Ty.low_ins sm
            omega
          have f1 := Ty.few_ins sm
          have f2 := Ty.take_places t.ins i
          refine ⟨.ref l, rfl, y, rfl, y, s, rfl, IsK.held s3.held s y hs, lo', by omega, fun p2 H2 s4 np hp2 => ?_⟩
          refine ⟨l, p2, _, _, rfl, rfl, s4 _ _ hl, hp2, lt_line (by rw [List.length_map, List.length_map]; omega), fun p3 hp3 => ?_⟩
          have s5 := s3.trans s4
          refine ⟨p3, _, rfl, ?_, s5.free hp3, s5.new hp3⟩
          rw [upd_same, take_next es, Ty.placesL_append, Ty.placesL_cons, Ty.placesL_nil, List.append_nil, List.map_append]
        · obtain ⟨l, s2, rfl, hl, nl, s3⟩ := hP
          rw [lr, List.take_length] at hl
          exact hN _ _ ⟨l, s2, rfl, hl, nl, s3⟩
      rintro σ' H' ⟨l, s2, rfl, hl, nl, s3⟩
      refine ⟨.ref l, rfl, .ref p, rfl, p, _, 1, _, rfl, rfl, SqT.of (s3 _ _ hp), rfl, by show 1 ≤ sizeLine; decide, fun p2 hp2 => ?_⟩
      refine ⟨l, p2, _, [.str t.atom], rfl, rfl, by rw [upd_ne (ne_of_none hl hp2)]; exact hl, upd_same, lt_line (by rw [List.length_map]; show _ + 1 ≤ _; omega), fun p3 hp3 => ?_⟩
      have s4 := (s3.new (o := .lst [.str t.atom]) hp2).new (o := .lst ((Ty.placesL t.ins).map V.str ++ [.str t.atom])) hp3
      refine q p3 _ s4 ((s3.new hp2).free hp3) ?_
      rw [upd_same, ep, List.map_append]
      rfl
theorem ok__law_made_kind (T : Txt K mg C_Type C_Library) (i_Type___init__ : MakC P w K mg base C_Type 4 ["self", "inputs", "atom"] (sp_Type___init__ K C_Type)) {f : Addr} {fd : FuncData} (F : Fun K "_law_made_kind" "_law_made_kind" s__law_made_kind f fd) (M : mg "_law_made_kind" = some (.ref f)) (B : Binds K fd ["_law_kind_here"] []) : ∀ n : Nat, FnOk P w K mg base CX0 (6 + n) f fd ["_law_kind_here"] (spr__law_made_kind n K C_Type)
  | 0 => by
    refine F.ok sc__law_made_kind (fun vs H Q E h => ?_) (fun cdv A outer s H vs Q E hr h => ?_) <;> (obtain ⟨_, _, _, _, z, _⟩ := h; exact absurd z (Nat.not_lt_zero _))
  | n + 1 => by
    have ih := ok__law_made_kind T i_Type___init__ F M B n
    have C_self : CalN P w K mg base "_law_made_kind" (6 + n) ["_law_kind_here"] (spr__law_made_kind n K C_Type) := ⟨f, fd, ih, M, F.kp, B⟩
    have nd := sc__law_made_kind.nd
    refine F.ok sc__law_made_kind (fun vs H Q E h => ?_) (fun cdv A outer s H vs Q E hr h => ?_)
    · obtain ⟨v, t, rfl, _⟩ := h
      rfl
    · obtain ⟨v, t, rfl, ht, lo, ft, q⟩ := h
      have hr : Room (6 + n) (A.deeper (envOfC "_law_made_kind" (defScope s__law_made_kind) s.heap.objs.size f cdv)) := by
        exact hr
      refine ⟨_, (pss_one (ps_ret (pe_makeC i_Type___init__ (hr.mono (by first | decide | omega)) rfl T.c_Type (pa_cons (pe_callTy call_tuple_of (by rfl) T.b_tuple (by decide +kernel) (pa_cons (pe_lcD (own := [("_law_one", 1)]) (by rfl) nd (pi_tup (pe_ix ix_tup (pv 0) pe_int (fun _ _ => rfl))) (blkOk_by (own := [("_law_one", 1)]) (N := ["_law_kind_here", "_law_one"]) (sc := (defScope s__law_made_kind)) (by decide +kernel)) (fun _ _ _ _ _ => pg_name (i := 1) nd rfl (Or.inl rfl)) (fun _ _ _ _ _ => pts_nil) (fun _ _ _ _ _ => (pe_callN C_self (hr.mono (by first | decide | omega)) rfl (pa_cons (pv 1) pa_nil)))) pa_nil)) (pa_cons (pe_ix ix_tup (pv 0) pe_int (fun _ _ => rfl)) pa_nil))))), ?_⟩
      obtain ⟨p, q', rs, rfl, hp, hq, hk⟩ := ht.at
      have lr := hk.len
      have few := Fits_ins_len ft
      have ft' : (Ty.mk t.ins t.atom).Fits := by rw [Ty.mk_eta]; exact ft
      have eo : t.order = Ty.orderL t.ins := by cases t; rw [Ty.order]; rfl
      refine ⟨.ref p, rfl, p, _, 0, _, rfl, rfl, SqT.of hp, rfl, q', rfl, ⟨rs, SqT.of hq⟩, fun D hD => ?_⟩
      refine lc_tup (xs := rs) (fun i H' => ∃ rs', H' D = some (.lst rs') ∧ IsTs C_Type H' (t.ins.take i) rs' ∧ Same H H') ?_ (fun i H' _ hP => ?_) (fun i y H' hy hP => ?_) (fun H' hP => ?_)
      · exact ⟨[], upd_same, by rw [List.take_zero]; exact IsTs.nil, (Same.refl H).mut hD⟩
      · obtain ⟨_, _, _, s2⟩ := hP
        exact SqT.of (s2 _ _ hq)
      · obtain ⟨rs', hD1, hl1, s2⟩ := hP
        obtain ⟨s, es, hs⟩ := hk.get hy
        have sm := List.mem_of_getElem? es
        have lo' : s.order < n := by
          have := Ty.low_ins sm
          omega
        refine ⟨rfl, tyes ?_⟩
        refine ⟨y, rfl, y, s, rfl, IsK.held s2.held s y hs, lo', ft'.ins sm, fun x H2 s3 hx => ?_⟩
        refine ⟨rs', s3 _ _ hD1, lt_line' (by rw [hl1.len, List.length_take]; omega), rs' ++ [.ref x], upd_same, ?_, (s2.trans s3).mut hD⟩
        rw [take_next es]
        have h3 : Held H2 (upd H2 D (.lst (rs' ++ [.ref x]))) := held_lst (s3 _ _ hD1)
        exact (IsTs.held h3 _ _ (IsTs.same s3 _ _ hl1)).app (.cons (IsT.held h3 _ _ hx) .nil)
      · obtain ⟨rs', hD1, hl1, s2⟩ := hP
        rw [lr, List.take_length] at hl1
        refine ⟨D, rs', rfl, .inl ⟨SqL.of hD1, fun l hl9 => ?_⟩⟩
        have s9 := s2.new (o := .tup rs') hl9
        refine ⟨.ref p, rfl, p, _, 1, _, rfl, rfl, SqT.of (s9 _ _ hp), rfl, ?_⟩
        exact make_ty upd_same (IsTs.same ((Same.refl H').new hl9) _ _ hl1) ft' fun x H' s h => q x H' (s9.trans s) (by rw [Ty.mk_eta] at h; exact h)
end


end My
namespace My
open PySem PySem.Spec PyProof.Rows L2 TL
set_option pp.maxSteps 400
set_option pp.deepTerms false
theorem Ty.orderL_le {o : Nat} : ∀ l : List Ty, (∀ t ∈ l, t.order + 1 ≤ o) → Ty.orderL l ≤ o
  | [], _ => by rw [Ty.orderL]; exact Nat.zero_le _
  | t :: r, h => by
    rw [Ty.orderL]
    exact Nat.max_le.mpr ⟨h t (List.mem_cons_self ..), Ty.orderL_le r fun u hu => h u (List.mem_cons_of_mem _ hu)⟩
theorem pick_size {L : Int} {x : V} (h : 0 < L) (hx : x ∈ [V.int 1, V.int (if L < 3 then L else 3), V.int L]) : ∃ k : Nat, x = .int k ∧ 1 ≤ k ∧ (k : Int) ≤ L := by
  have nat : ∀ z : Int, 1 ≤ z → z ≤ L → ∃ k : Nat, V.int z = .int k ∧ 1 ≤ k ∧ (k : Int) ≤ L := fun z h1 h2 => ⟨z.toNat, by rw [Int.toNat_of_nonneg (by omega)], by omega, by omega⟩
  rcases List.mem_cons.mp hx with rfl | hx
  · exact nat 1 (by omega) (by omega)
  rcases List.mem_cons.mp hx with rfl | hx
  · by_cases c : L < 3
    · rw [if_pos c]
      exact nat L (by omega) (by omega)
    · rw [if_neg c]
      exact nat 3 (by omega) (by omega)
  · rw [List.mem_singleton.mp hx]
    exact nat L (by omega) (by omega)
theorem pick_order {o : Nat} {x : V} (h : 0 < o) (hx : x ∈ [V.int 0, V.int 0, V.int ((o : Int) - 1)]) : ∃ k : Nat, x = .int k ∧ k + 1 ≤ o := by
  rcases List.mem_cons.mp hx with rfl | hx
  · exact ⟨0, rfl, h⟩
  rcases List.mem_cons.mp hx with rfl | hx
  · exact ⟨0, rfl, h⟩
  · rw [List.mem_singleton.mp hx]
    exact ⟨o - 1, by rw [Int.ofNat_sub h] <;> rfl, by omega⟩
def spr__law_kind (n : Nat) (K : PySem.W.Frag) : Sp := fun vs H Q _ => ∃ d la, ∃ A : List Str, ∃ o m : Nat, vs = [.ref d, .ref la, .int o, .int m] ∧ IsDice H d ∧ H la = some (.lst (A.map V.str)) ∧ la ≠ d ∧ A ≠ [] ∧ A.length ≤ 1000 ∧ o < n ∧ o ≤ 5 ∧ 1 ≤ m ∧ m ≤ 1000 ∧
  ∀ v t H', IsK H' t v → t.order ≤ o → t.places.length ≤ m → (∀ x ∈ t.places, x ∈ A) → Ext d H H' → IsDice H' d → Q v H'
def sp__law_kind (K : PySem.W.Frag) : Sp := spr__law_kind 6 K
section
variable {P : Program} {w : World} {K : PySem.W.Frag} {mg : Str → Option Value} {base : Heap} {C_Type : Addr}
theorem ok__law_kind (T : Txt K mg C_Type C_Library) (c__law_pick : CalN P w K mg base "_law_pick" 2 ["_law_dice_here", "_law_items"] (sp__law_pick K)) (c__law_roll : CalN P w K mg base "_law_roll" 1 ["_law_dice_here", "_law_total"] (sp__law_roll K)) (c__law_atoms_of : CalN P w K mg base "_law_atoms_of" 7 ["_law_kind_here"] (sp__law_atoms_of K)) {f : Addr} {fd : FuncData} (F : Fun K "_law_kind" "_law_kind" s__law_kind f fd) (M : mg "_law_kind" = some (.ref f)) (B : Binds K fd ["_law_dice_here", "_law_atoms", "_law_order", "_law_most"] []) : ∀ n : Nat, FnOk P w K mg base CX0 (8 + n) f fd ["_law_dice_here", "_law_atoms", "_law_order", "_law_most"] (spr__law_kind n K)
  | 0 => by
    refine F.ok sc__law_kind (fun vs H Q E h => ?_) (fun cdv A outer s H vs Q E hr h => ?_) <;> (obtain ⟨_, _, _, _, _, _, _, _, _, _, _, z, _⟩ := h; exact absurd z (Nat.not_lt_zero _))
  | n + 1 => by
    have ih := ok__law_kind T c__law_pick c__law_roll c__law_atoms_of F M B n
    have C_self : CalN P w K mg base "_law_kind" (8 + n) ["_law_dice_here", "_law_atoms", "_law_order", "_law_most"] (spr__law_kind n K) := ⟨f, fd, ih, M, F.kp, B⟩
    have nd := sc__law_kind.nd
    refine F.ok sc__law_kind (fun vs H Q E h => ?_) (fun cdv A outer s H vs Q E hr h => ?_)
    · obtain ⟨d, la, A, o, m, rfl, _⟩ := h
      rfl
    · obtain ⟨d, la, As, o, m, rfl, hd, hA, nA, eA, zA, lo, o5, m1, m2, q⟩ := h
      have hr : Room (8 + n) (A.deeper (envOfC "_law_kind" (defScope s__law_kind) s.heap.objs.size f cdv)) := hr
      refine ⟨_, (pss_cons (ps_par (i := 4) (j := 5) (by rfl) nd rfl rfl (by decide) rfl rfl (pa_cons (pe_lst pa_nil) (pa_cons (pe_op op_sub (pv 3) pe_int) pa_nil)) (by rfl))
      (pss_cons (ps_for PassesOwn.never rfl (pi_range1 (by rfl) T.b_range (pa_cons (pe_ifExp (pt_cmpR op_gt (pv 2) pe_int (nomark _)) (pe_callN c__law_roll (hr.mono (by first | decide | omega)) rfl (pa_cons (pv 0) (pa_cons pe_int pa_nil))) pe_int) pa_nil)) (pg_name (i := 6) nd rfl (.inl rfl)) (pss_one (ps_if (pt_cmpR op_gt (pv 5) pe_int (nomark _)) (pss_cons (ps_set (i := 7) nd rfl (.inl rfl) (pe_callN c__law_pick (hr.mono (by first | decide | omega)) rfl (pa_cons (pv 0) (pa_cons (pe_lst (pa_cons pe_int (pa_cons (pe_callB (call_min2 rfl) (by rfl) T.b_min (by decide +kernel) (pa_cons pe_int (pa_cons (pv 5) pa_nil))) (pa_cons (pv 5) pa_nil)))) pa_nil))))
      (pss_cons (ps_set (i := 8) nd rfl (.inl rfl) (pe_callN C_self (hr.mono (by first | decide | omega)) rfl (pa_cons (pv 0) (pa_cons (pv 1) (pa_cons (pe_callN c__law_pick (hr.mono (by first | decide | omega)) rfl (pa_cons (pv 0) (pa_cons (pe_lst (pa_cons pe_int (pa_cons pe_int (pa_cons (pe_op op_sub (pv 2) pe_int) pa_nil)))) pa_nil))) (pa_cons (pv 7) pa_nil))))))
      (pss_cons (ps_expr (pe_bm PySem.F.plainAttrs_list PySem.F.slot_list_append PySem.F.type_list_append mt_append (pv 4) (pa_cons (pv 8) pa_nil)))
      (pss_one (ps_set (i := 5) nd rfl (.inl rfl) (pe_op op_sub (pv 5) (pe_callB call_len (by rfl) T.b_len (by decide +kernel) (pa_cons (pe_callN c__law_atoms_of (hr.mono (by first | decide | omega)) rfl (pa_cons (pv 8) pa_nil)) pa_nil)))))))) pss_nil)))
      (pss_one (ps_ret (pe_tup (pa_cons (pe_callTy call_tuple_of (by rfl) T.b_tuple (by decide +kernel) (pa_cons (pv 4) pa_nil)) (pa_cons (pe_callN c__law_pick (hr.mono (by first | decide | omega)) rfl (pa_cons (pv 0) (pa_cons (pv 1) pa_nil))) pa_nil))))))), ?_⟩
      have t3 : 3 ≤ sizeLine := by decide
      refine ⟨Nat.zero_le _, fun li hli => ?_⟩
      refine ⟨.int m, rfl, (m : Int), 1, rfl, rfl, _, _, rfl, ?_⟩
      have nli : li ≠ d := hd.ne hli
      have e0 : Ext d H (upd H li (.lst [])) := (Ext.refl H).new hli
      have d0 : IsDice (upd H li (.lst [])) d := hd.new hli
      dsimp only
      refine cut_for (fun σ' H' => ∃ s5 s6 s7 s8 ts rs, σ' = [some (.ref d), some (.ref la), some (.int o), some (.int m), some (.ref li), s5, s6, s7, s8] ∧ H' li = some (.lst rs) ∧ IsKs H' ts rs ∧ (∀ t ∈ ts, t.order + 1 ≤ o) ∧ (Ty.placesL ts).length + 1 ≤ m ∧ (∀ x ∈ Ty.placesL ts, x ∈ As) ∧ Ext d H H' ∧ IsDice H' d) (fun N hN => ?_) ?_
      · refine ⟨.int o, rfl, (o : Int), 0, rfl, rfl, _, rfl, ite2 (fun c => ?_) (fun c => ?_)⟩
        · have o0 : 0 < o := by have := of_decide_eq_true c; omega
          refine ⟨.ref d, rfl, d, 4, rfl, d0, by decide, by decide, fun r H1 r0 r1 e1 d1 => ?_⟩
          have e01 := e0.trans e1
          refine ⟨r, rfl, by omega, by omega, for_range (lo := 0) (fun i σ' H' => ∃ L s6 s7 s8 ts rs, σ' = [some (.ref d), some (.ref la), some (.int o), some (.int m), some (.ref li), some (.int L), s6, s7, s8] ∧ 0 ≤ L ∧ L + (Ty.placesL ts).length + 1 = (m : Int) ∧ H' li = some (.lst rs) ∧ IsKs H' ts rs ∧ ts.length = rs.length ∧ rs.length ≤ i ∧ (∀ t ∈ ts, t.order + 1 ≤ o) ∧ (∀ x ∈ Ty.placesL ts, x ∈ As) ∧ Ext d H H' ∧ IsDice H' d) ?_ (fun i σ' H' hi hP => ?_) (fun σ' H' hP => ?_)⟩
          · exact ⟨_, _, _, _, [], [], rfl, by omega, by rw [Ty.placesL_nil]; show (m : Int) - 1 + 0 + 1 = m; omega, e1 _ _ nli upd_same, .nil, rfl, Nat.zero_le _, fun _ h => (by cases h), fun _ h => (by rw [Ty.placesL_nil] at h; cases h), e01, d1⟩
          · obtain ⟨L, s6, s7, s8, ts, rs, rfl, L0, Lm, hli1, hk, ln, li4, ords, ins, e2, d2⟩ := hP
            refine ⟨.int L, rfl, L, 0, rfl, rfl, _, rfl, ite2 (fun c => ?_) (fun c => ?_)⟩
            · have Lp : 0 < L := of_decide_eq_true c
              refine ⟨.ref d, rfl, .int L, rfl, 3, L, rfl, .int L, rfl, t3, fun l1 hl1 => ?_⟩
              refine ⟨d, l1, _, rfl, d2.new hl1, SqL.of upd_same, d2.ne hl1, by simp, by show 3 < 1000000; decide, fun x H2 hx e3 d3 => ?_⟩
              obtain ⟨k, rfl, k1, kL⟩ := pick_size Lp hx
              refine asg_go ?_
              dsimp only
              have e13 := (e2.new (o := .lst [V.int 1, V.int (if L < 3 then L else 3), V.int L]) hl1).trans e3
              have hk3 := IsKs.held ((((Ext.refl H').new (o := .lst [V.int 1, V.int (if L < 3 then L else 3), V.int L]) hl1).trans e3).held d2) ts rs hk
              have hli3 : H2 li = some (.lst rs) := e3 _ _ nli (by rw [upd_ne (ne_of_none hli1 hl1)]; exact hli1)
              refine ⟨.ref d, rfl, .ref la, rfl, .ref d, rfl, .int o, rfl, (o : Int), 1, rfl, rfl, t3, fun l2 hl2 => ?_⟩
              refine ⟨d, l2, _, rfl, d3.new hl2, SqL.of upd_same, d3.ne hl2, by simp, by show 3 < 1000000; decide, fun y H3 hy e4 d4 => ?_⟩
              obtain ⟨o', rfl, ho'⟩ := pick_order o0 hy
              have e14 := (e13.new (o := .lst [V.int 0, V.int 0, V.int ((o : Int) - 1)]) hl2).trans e4
              have hk4 := IsKs.held ((((Ext.refl H2).new (o := .lst [V.int 0, V.int 0, V.int ((o : Int) - 1)]) hl2).trans e4).held d3) ts rs hk3
              have hli4 : H3 li = some (.lst rs) := e4 _ _ nli (by rw [upd_ne (ne_of_none hli3 hl2)]; exact hli3)
              refine ⟨.int k, rfl, d, la, As, o', k, rfl, d4, e14 _ _ nA hA, nA, eA, zA, by omega, by omega, k1, by omega, fun v t H4 hv lo4 le4 in4 e5 d5 => ?_⟩
              refine asg_go ?_
              dsimp only
              have hk5 := IsKs.held (e5.held d4) ts rs hk4
              have hli5 : H4 li = some (.lst rs) := e5 _ _ nli hli4
              have hd6 : Held H4 (upd H4 li (.lst (rs ++ [v]))) := held_lst hli5
              refine ⟨.ref li, rfl, .inl ⟨rfl, _, SqL.of hli5⟩, v, rfl, li, rs, v, rfl, rfl, hli5, lt_line' (by omega), ?_⟩
              have e6 : Ext d H (upd H4 li (.lst (rs ++ [v]))) := (e14.trans e5).mut hli
              refine ⟨.int L, rfl, v, rfl, v, t, rfl, IsK.held hd6 t v hv, by omega, by omega, fun p5 H5 s5 np hp5 => ?_⟩
              refine ⟨.ref p5, _, rfl, .inl ⟨_, SqL.of hp5, rfl⟩, L, _, rfl, rfl, ?_⟩
              have lt_ : (Ty.placesL (ts ++ [t])).length = (Ty.placesL ts).length + t.places.length := by
                rw [Ty.placesL_append, Ty.placesL_cons, Ty.placesL_nil, List.append_nil, List.length_append]
              refine ⟨L - ((t.places.map V.str).length : Nat), _, _, _, ts ++ [t], rs ++ [v], rfl, ?_, ?_, s5 _ _ upd_same, ?_, ?_, ?_, fun u hu => ?_, fun x hx => ?_, e6.trans (Ext.same s5), (d5.mut nli).same s5⟩
              · rw [List.length_map]
                omega
              · rw [List.length_map, lt_]
                omega
              · exact (IsKs.held s5.held _ _ (IsKs.held hd6 ts rs hk5)).app (.cons (IsK.held s5.held _ _ (IsK.held hd6 t v hv)) .nil)
              · rw [List.length_append, List.length_append, ln]
                rfl
              · rw [List.length_append]
                show rs.length + 1 ≤ i + 1
                omega
              · rcases List.mem_append.mp hu with h | h
                · exact ords u h
                · rw [List.mem_singleton.mp h]
                  omega
              · rw [Ty.placesL_append, Ty.placesL_cons, Ty.placesL_nil, List.append_nil] at hx
                rcases List.mem_append.mp hx with h | h
                · exact ins x h
                · exact in4 x h
            · exact ⟨L, _, _, _, ts, rs, rfl, L0, Lm, hli1, hk, ln, by omega, ords, ins, e2, d2⟩
          · obtain ⟨L, s6, s7, s8, ts, rs, rfl, L0, Lm, hli1, hk, ln, li4, ords, ins, e2, d2⟩ := hP
            exact hN _ _ ⟨_, _, _, _, ts, rs, rfl, hli1, hk, ords, by omega, ins, e2, d2⟩
        · refine ⟨0, rfl, by decide, by decide, for_range (lo := 0) (fun i σ' H' => σ' = [some (.ref d), some (.ref la), some (.int o), some (.int m), some (.ref li), some (.int ((m : Int) - 1)), none, none, none] ∧ H' = upd H li (.lst [])) ⟨rfl, rfl⟩ (fun i σ' H' hi hP => absurd hi (Nat.not_lt_zero _)) (fun σ' H' hP => ?_)⟩
          obtain ⟨rfl, rfl⟩ := hP
          exact hN _ _ ⟨_, _, _, _, [], [], rfl, upd_same, .nil, fun _ h => (by cases h), by rw [Ty.placesL_nil]; exact m1, fun _ h => (by rw [Ty.placesL_nil] at h; cases h), e0, d0⟩
      rintro σ' H' ⟨s5, s6, s7, s8, ts, rs, rfl, hli', hk, ords, few, ins, e2, d2⟩
      refine ⟨.ref li, rfl, li, rs, rfl, .inl ⟨SqL.of hli', fun p1 hp1 => ?_⟩⟩
      refine ⟨.ref d, rfl, .ref la, rfl, d, la, As.map V.str, rfl, d2.new hp1, SqL.of ((e2.new hp1) _ _ nA hA), nA, by simpa using eA, by rw [List.length_map]; omega, fun x H3 hx e3 d3 => ⟨by show 2 ≤ sizeLine; decide, fun p2 hp2 => ?_⟩⟩
      obtain ⟨a, ha, rfl⟩ := mem_strs hx
      have np1 : p1 ≠ d := d2.ne hp1
      have hp13 : H3 p1 = some (.tup rs) := e3 _ _ np1 upd_same
      have e23 : Ext d H' H3 := ((Ext.refl H').new hp1).trans e3
      have pl : (Ty.mk ts a).places = Ty.placesL ts ++ [a] := by rw [Ty.places]
      refine q (.ref p2) (.mk ts a) _ ?_ (by rw [Ty.order]; exact Ty.orderL_le ts ords) (by rw [pl, List.length_append]; exact few) (fun x hx => ?_) ((e2.trans e23).new hp2) (d3.new hp2)
      · rw [IsK]
        exact ⟨p2, p1, rs, rfl, upd_same, by rw [upd_ne (ne_of_none hp13 hp2)]; exact hp13, IsKs.held (((e23.new hp2)).held d2) ts rs hk⟩
      · rw [pl] at hx
        rcases List.mem_append.mp hx with h | h
        · exact ins x h
        · rw [List.mem_singleton.mp h]
          exact ha
end


end My
namespace My
open PySem PySem.Spec PyProof.Rows L2 TL
set_option pp.maxSteps 400
set_option pp.deepTerms false
theorem intBits_le (x : Int) {n : Nat} (h : x.natAbs < 2 ^ n) (h0 : 0 < n) : Builtin.Int.intBits x ≤ n := by
  have e := PySem.Flt.log2_lt_of h0 h
  unfold Builtin.Int.intBits
  split <;> omega
section
variable {P : Program} {w : World} {K : PySem.W.Frag} {mg : Str → Option Value} {base : Heap}
theorem ok__law_roll (T : Txt K mg C_Type C_Library) {f : Addr} {fd : FuncData} (F : Fun K "_law_roll" "_law_roll" s__law_roll f fd) : FnOk P w K mg base CX0 1 f fd ["_law_dice_here", "_law_total"] (sp__law_roll K) := by
  have nd := sc__law_roll.nd
  refine F.ok sc__law_roll (fun vs H Q E h => ?_) (fun cdv A outer s H vs Q E hr h => ?_)
  · obtain ⟨d, n, rfl, _⟩ := h
    rfl
  · obtain ⟨d, n, rfl, ⟨a, b, c, hd⟩, h0, h1, q⟩ := h
    refine ⟨_, (pss_cons (ps_if (pt_cmpR op_gt (pe_ix ix_list (pv 0) pe_int (fun _ _ => rfl)) pe_int (nomark _)) (pss_cons (ps_set (i := 2) nd rfl (.inl rfl) (pe_op op_mod (pe_callTy call_int1 (by rfl) T.b_int (by decide +kernel) (pa_cons (pe_ix ix_list (pv 0) pe_int (fun _ _ => rfl)) pa_nil)) (pv 1)))
      (pss_cons (ps_asg (pe_op op_fdiv (pe_ix ix_list (pv 0) pe_int (fun _ _ => rfl)) (pv 1)) (pg_sub (pv 0) pe_int set_list))
      (pss_one (ps_ret (pv 2))))) pss_nil)
      (pss_cons (ps_asg (pe_op op_add (pe_ix ix_list (pv 0) pe_int (fun _ _ => rfl)) pe_int) (pg_sub (pv 0) pe_int set_list))
      (pss_cons (ps_set (i := 3) nd rfl (.inl rfl) (pe_op op_mod (pe_callTy call_int1 (by rfl) T.b_int (by decide +kernel) (pa_cons (pe_op op_add (pe_ix ix_list (pv 0) pe_int (fun _ _ => rfl)) (pe_op op_mul pe_int (pe_ix ix_list (pv 0) pe_int (fun _ _ => rfl)))) pa_nil)) pe_int))
      (pss_cons (ps_set (i := 4) nd rfl (.inl rfl) (pe_op op_add (pe_op op_mul (pe_op op_mod (pe_callTy call_int1 (by rfl) T.b_int (by decide +kernel) (pa_cons (pe_op op_mul (pv 3) (pv 3)) pa_nil)) pe_int) (pv 3)) (pe_op op_mul pe_int (pe_ix ix_list (pv 0) pe_int (fun _ _ => rfl)))))
      (pss_cons (ps_set (i := 4) nd rfl (.inl rfl) (pe_op op_mod (pe_callTy call_int1 (by rfl) T.b_int (by decide +kernel) (pa_cons (pv 4) pa_nil)) pe_int))
      (pss_one (ps_ret (pe_op op_mod (pe_callTy call_int1 (by rfl) T.b_int (by decide +kernel) (pa_cons (pe_op op_fdiv (pv 4) pe_int) pa_nil)) (pv 1))))))))), ?_⟩
    have g0 : SqL K H d [.int a, .int b, .int c] := SqL.of hd
    refine ⟨.ref d, rfl, d, _, 0, _, rfl, rfl, g0, rfl, a, 0, rfl, rfl, _, rfl, ?_⟩
    refine ite2 (fun _ => ?_) (fun _ => ?_)
    · refine ⟨.ref d, rfl, d, _, 0, _, rfl, rfl, g0, rfl, .inl ⟨a, rfl, .int n, rfl, a, n, rfl, rfl, h0, ?_⟩⟩
      refine ⟨.ref d, rfl, d, _, 0, _, rfl, rfl, g0, rfl, .int n, rfl, a, n, rfl, rfl, ⟨h0, h1⟩, ?_⟩
      refine ⟨.ref d, rfl, d, _, 0, 0, rfl, rfl, hd, rfl, ?_⟩
      refine ⟨.int (a % n), rfl, ?_⟩
      exact q _ _ (Int.emod_nonneg _ (by omega)) (Int.emod_lt_of_pos _ h0) Ext.set ⟨_, _, _, upd_same⟩
    · refine ⟨.ref d, rfl, d, _, 2, _, rfl, rfl, g0, rfl, c, 1, rfl, rfl, ?_⟩
      refine ⟨.ref d, rfl, d, _, 2, 2, rfl, rfl, hd, rfl, ?_⟩
      have g2 : SqL K (upd H d (.lst [.int a, .int b, .int (c + 1)])) d [.int a, .int b, .int (c + 1)] := SqL.of upd_same
      refine ⟨.ref d, rfl, d, _, 1, _, rfl, rfl, g2, rfl, .ref d, rfl, d, _, 2, _, rfl, rfl, g2, rfl, 998244293, c + 1, rfl, rfl, .inl ⟨by decide, by decide⟩, b, _, rfl, rfl, ?_⟩
      refine .inl ⟨_, rfl, _, _, rfl, rfl, (show (0 : Int) < 2305843009213693951 by decide), ?_⟩
      have x0 : 0 ≤ (b + 998244293 * (c + 1)) % 2305843009213693951 := Int.emod_nonneg _ (by decide)
      have x1 : (b + 998244293 * (c + 1)) % 2305843009213693951 < 2305843009213693951 := Int.emod_lt_of_pos _ (by decide)
      have xm : -(2 ^ 64 : Int) < (b + 998244293 * (c + 1)) % 2305843009213693951 ∧ (b + 998244293 * (c + 1)) % 2305843009213693951 < 2 ^ 64 := ⟨by omega, by omega⟩
      refine ⟨_, rfl, _, rfl, _, _, rfl, rfl, .inl xm, .inl ⟨_, rfl, _, _, rfl, rfl, (show (0 : Int) < 2305843009213693921 by decide), ?_⟩⟩
      refine ⟨_, rfl, _, _, rfl, rfl, .inr xm, ?_⟩
      refine ⟨.ref d, rfl, d, _, 2, _, rfl, rfl, g2, rfl, 9413, c + 1, rfl, rfl, .inl ⟨by decide, by decide⟩, _, _, rfl, rfl, ?_⟩
      refine ⟨_, rfl, .inl ⟨_, rfl, _, _, rfl, rfl, (show (0 : Int) < 2305843009213693669 by decide), ?_⟩⟩
      refine ⟨_, rfl, _, _, rfl, rfl, ⟨(show (0 : Int) < 8192 by decide), (show (8192 : Int) < 1073741824 by decide)⟩, .inl ⟨_, rfl, .int n, rfl, _, n, rfl, rfl, h0, ?_⟩⟩
      exact q _ _ (Int.emod_nonneg _ (by omega)) (Int.emod_lt_of_pos _ h0) Ext.set ⟨_, _, _, upd_same⟩
theorem ok__law_pick (T : Txt K mg C_Type C_Library) (c__law_roll : CalN P w K mg base "_law_roll" 1 ["_law_dice_here", "_law_total"] (sp__law_roll K)) {f : Addr} {fd : FuncData} (F : Fun K "_law_pick" "_law_pick" s__law_pick f fd) : FnOk P w K mg base CX0 2 f fd ["_law_dice_here", "_law_items"] (sp__law_pick K) := by
  have nd := sc__law_pick.nd
  refine F.ok sc__law_pick (fun vs H Q E h => ?_) (fun cdv A outer s H vs Q E hr h => ?_)
  · obtain ⟨d, l, xs, rfl, _⟩ := h
    rfl
  · obtain ⟨d, l, xs, rfl, hd, hl, ne, xne, hz, q⟩ := h
    refine ⟨_, (pss_one (ps_ret (pe_ix ix_list (pv 1) (pe_callN c__law_roll (hr.mono (by first | decide | omega)) rfl (pa_cons (pv 0) (pa_cons (pe_callB call_len (by rfl) T.b_len (by decide +kernel) (pa_cons (pv 1) pa_nil)) pa_nil))) (fun _ _ => rfl)))), ?_⟩
    have h1 : 0 < xs.length := List.length_pos_iff.mpr xne
    refine ⟨.ref l, rfl, .ref d, rfl, .ref l, rfl, .ref l, xs.length, rfl, .inl ⟨xs, hl, rfl⟩, ?_⟩
    refine ⟨d, (xs.length : Int), rfl, hd, by omega, by omega, fun r H' r0 r1 e dd => ?_⟩
    have hr' : r.toNat < xs.length := by omega
    have er : r = (r.toNat : Int) := by omega
    refine ⟨l, xs, r, xs[r.toNat], rfl, rfl, sql_ext e ne hl, ?_, ?_⟩
    · have g := atI_nat (List.getElem?_eq_getElem hr')
      rw [← er] at g
      exact g
    · exact q _ _ (List.getElem_mem hr') e dd
end

section
variable {P : Program} {w : World} {K : PySem.W.Frag} {mg : Str → Option Value} {base : Heap}
theorem ok__law_dice (T : Txt K mg C_Type C_Library) {f : Addr} {fd : FuncData} (F : Fun K "_law_dice" "_law_dice" s__law_dice f fd) : FnOk P w K mg base CX0 1 f fd ["_law_script", "_law_spot"] (sp__law_dice K) := by
  have nd := sc__law_dice.nd
  refine F.ok sc__law_dice (fun vs H Q E h => ?_) (fun cdv A outer s H vs Q E hr h => ?_)
  · obtain ⟨a, ns, i, rfl, _⟩ := h
    rfl
  · obtain ⟨a, ns, i', rfl, hS, hi0, hi, q⟩ := h
    obtain ⟨i, rfl⟩ := Int.eq_ofNat_of_zero_le hi0
    refine ⟨_, (pss_cons (ps_set (i := 2) nd rfl (.inl rfl) (pe_op op_add (pe_op op_mul pe_int (pv 1)) pe_int))
      (pss_cons (ps_if (pt_cmpR op_lt (pv 1) (pe_callB call_len (by rfl) T.b_len (by decide +kernel) (pa_cons (pv 0) pa_nil)) (nomark _)) (pss_one (ps_set (i := 2) nd rfl (.inl rfl) (pe_ix ix_list (pv 0) (pv 1) (fun _ _ => rfl)))) pss_nil)
      (pss_cons (ps_set (i := 3) nd rfl (.inl rfl) (pe_op op_mod (pe_callTy call_int1 (by rfl) T.b_int (by decide +kernel) (pa_cons (pe_callB call_abs (by rfl) T.b_abs (by decide +kernel) (pa_cons (pv 2) pa_nil)) pa_nil)) (pe_op op_powW (pe_op op_powW pe_int pe_int) pe_int)))
      (pss_cons (ps_set (i := 4) nd rfl (.inl rfl) (pe_op op_add (pe_op op_add (pe_op op_add (pe_op op_mul (pe_op op_mod (pe_callTy call_int1 (by rfl) T.b_int (by decide +kernel) (pa_cons (pv 3) pa_nil)) pe_int) pe_int) (pe_op op_mul pe_int (pv 1))) (pe_op op_mul pe_int (pe_callTy call_int1 (by rfl) T.b_int (by decide +kernel) (pa_cons (pe_cmpR op_lt (pv 2) pe_int (nomark _)) pa_nil)))) pe_int))
      (pss_one (ps_ret (pe_lst (pa_cons (pe_callB (call_max2 rfl) (by rfl) T.b_max (by decide +kernel) (pa_cons pe_int (pa_cons (pe_op op_sub (pv 3) (pe_op op_powW pe_int pe_int)) pa_nil))) (pa_cons (pe_op op_mod (pe_callTy call_int1 (by rfl) T.b_int (by decide +kernel) (pa_cons (pv 4) pa_nil)) pe_int) (pa_cons pe_int pa_nil)))))))))), ?_⟩
    refine ⟨.int i, rfl, _, _, rfl, rfl, .inl ⟨by decide, by decide⟩, _, _, rfl, rfl, ?_⟩
    refine ⟨.int i, rfl, .ref a, rfl, .ref a, _, rfl, .inl ⟨_, hS, rfl⟩, _, _, rfl, rfl, _, rfl, ?_⟩
    have p1 : (0 : Int) < (10 ^ 60) ^ 10 := by decide +kernel
    have p2 : (0 : Int) < 2305843009213693669 := by decide
    refine ite2 (fun hlt => ?_) (fun _ => ?_)
    · have hlt' : i < ns.length := by
        have := of_decide_eq_true hlt
        rw [List.length_map] at this
        omega
      refine ⟨.ref a, rfl, .int i, rfl, a, _, _, .int ns[i], rfl, rfl, hS, atI_nat (by rw [List.getElem?_map, List.getElem?_eq_getElem hlt']; rfl), ?_⟩
      refine ⟨_, rfl, _, rfl, .inl ⟨_, rfl, 10, 60, rfl, rfl, ⟨by decide, by decide +kernel⟩, _, 10, rfl, rfl, ⟨by decide, by decide +kernel⟩, _, _, rfl, rfl, p1, ?_⟩⟩
      refine ⟨_, rfl, .inl ⟨_, rfl, _, _, rfl, rfl, p2, _, _, rfl, rfl, .inr ⟨by decide, by decide⟩, .int i, rfl, _, _, rfl, rfl, .inl ⟨by decide, by decide⟩, _, _, rfl, rfl, ?_⟩⟩
      refine ⟨_, rfl, _, _, rfl, rfl, .inr ⟨_, rfl, _, _, rfl, rfl, .inl ⟨by decide, by decide⟩, _, _, rfl, rfl, _, _, rfl, rfl, ?_⟩⟩
      refine ⟨_, rfl, 10, 18, rfl, rfl, ⟨by decide, by decide +kernel⟩, _, _, rfl, rfl, _, _, rfl, _, rfl, .inl ⟨_, rfl, _, _, rfl, rfl, p2, by show 3 ≤ sizeLine; decide, fun p hp => q p _ hp ⟨_, _, _, upd_same⟩⟩⟩
    · refine ⟨_, rfl, _, rfl, .inl ⟨_, rfl, 10, 60, rfl, rfl, ⟨by decide, by decide +kernel⟩, _, 10, rfl, rfl, ⟨by decide, by decide +kernel⟩, _, _, rfl, rfl, p1, ?_⟩⟩
      refine ⟨_, rfl, .inl ⟨_, rfl, _, _, rfl, rfl, p2, _, _, rfl, rfl, .inr ⟨by decide, by decide⟩, .int i, rfl, _, _, rfl, rfl, .inl ⟨by decide, by decide⟩, _, _, rfl, rfl, ?_⟩⟩
      refine ⟨_, rfl, _, _, rfl, rfl, .inr ⟨_, rfl, _, _, rfl, rfl, .inl ⟨by decide, by decide⟩, _, _, rfl, rfl, _, _, rfl, rfl, ?_⟩⟩
      refine ⟨_, rfl, 10, 18, rfl, rfl, ⟨by decide, by decide +kernel⟩, _, _, rfl, rfl, _, _, rfl, _, rfl, .inl ⟨_, rfl, _, _, rfl, rfl, p2, by show 3 ≤ sizeLine; decide, fun p hp => q p _ hp ⟨_, _, _, upd_same⟩⟩⟩
end


end My
namespace My
open PySem PySem.Spec PyProof.Rows L2 TL
set_option pp.maxSteps 400
set_option pp.deepTerms false
theorem Ty.places_at (t : Ty) : t.places = Ty.placesL t.ins ++ [t.atom] := Ty.places_of t

namespace Ty
theorem orderL_of' (t : Ty) : t.order = orderL t.ins := by cases t; rw [order]; rfl
theorem order_at (t : Ty) : t.order = orderL t.ins := by cases t; rw [order]; rfl
theorem order_max (t : Ty) (m : Int) (h0 : t.ins.map (fun t => ((t.order : Nat) : Int)) = [] → m = -1) (h1 : t.ins.map (fun t => ((t.order : Nat) : Int)) ≠ [] → m ∈ t.ins.map (fun t => ((t.order : Nat) : Int)) ∧ ∀ y ∈ t.ins.map (fun t => ((t.order : Nat) : Int)), y ≤ m) : ((t.order : Nat) : Int) = 1 + m := by
  have e := orderL_max t.ins (m + 1) (fun h => by
    have : t.ins = [] := List.map_eq_nil_iff.mp h
    rw [h0 (by rw [this]; rfl)]
    rfl) (fun h => by
    have ne : t.ins.map (fun t => ((t.order : Nat) : Int)) ≠ [] := fun z => h (by rw [List.map_eq_nil_iff.mp z]; rfl)
    obtain ⟨a, b⟩ := h1 ne
    obtain ⟨u, hu, eu⟩ := List.mem_map.mp a
    refine ⟨List.mem_map.mpr ⟨u, hu, by rw [← eu]⟩, fun y hy => ?_⟩
    obtain ⟨u2, hu2, eu2⟩ := List.mem_map.mp hy
    have := b _ (List.mem_map.mpr ⟨u2, hu2, rfl⟩)
    omega)
  rw [order_at]
  omega
end Ty

/-! ### kinds of the law as data -/
mutual
/-- a kind of the law as data -/
def kd : Ty → PyData
  | .mk i a => .tuple [.tuple (kdL i), .str a]
def kdL : List Ty → List PyData
  | [] => []
  | t :: r => kd t :: kdL r
end
mutual
theorem IsK.dp {K : PySem.W.Frag} {H : Hp} : ∀ (t : Ty) (v : V), IsK H t v → Dp K H v (kd t)
  | .mk i a, v, h => by
    rw [IsK] at h
    obtain ⟨p, q, rs, rfl, hp, hq, hi⟩ := h
    rw [kd]
    exact .tup (SqT.of hp) (.cons (.tup (SqT.of hq) (IsKs.dp i rs hi)) (.cons (.str a) .nil))
theorem IsKs.dp {K : PySem.W.Frag} {H : Hp} : ∀ (l : List Ty) (rs : List V), IsKs H l rs → DpAll K H rs (kdL l)
  | [], rs, h => by
    rw [IsKs] at h
    rw [h, kdL]
    exact .nil
  | t :: r, rs, h => by
    rw [IsKs] at h
    obtain ⟨v, vs, rfl, h1, h2⟩ := h
    rw [kdL]
    exact .cons (IsK.dp t v h1) (IsKs.dp r vs h2)
end
mutual
theorem kd_lay : ∀ t : Ty, (∀ a ∈ t.places, PyData.strOk a = true) → (kd t).canLay0 = true ∧ (kd t).depth ≤ 2 * t.order + 2
  | .mk i a, h => by
    rw [Ty.places] at h
    obtain ⟨h1, h2⟩ := kdL_lay i fun b hb => h b (List.mem_append_left _ hb)
    have h3 := h a (List.mem_append_right _ (List.mem_singleton.mpr rfl))
    rw [kd, Ty.order]
    constructor
    · rw [PyData.canLay0, PyData.canLayAll0, PyData.canLayAll0, PyData.canLayAll0, PyData.canLay0, PyData.canLay0, h1, h3]
      rfl
    · rw [PyData.depth, PyData.depthAll, PyData.depthAll, PyData.depthAll, PyData.depth, PyData.depth]
      omega
theorem kdL_lay : ∀ l : List Ty, (∀ a ∈ Ty.placesL l, PyData.strOk a = true) → PyData.canLayAll0 (kdL l) = true ∧ PyData.depthAll (kdL l) ≤ 2 * Ty.orderL l
  | [], h => by
    rw [kdL]
    exact ⟨rfl, Nat.zero_le _⟩
  | t :: r, h => by
    rw [Ty.placesL_cons] at h
    obtain ⟨h1, h2⟩ := kd_lay t fun b hb => h b (List.mem_append_left _ hb)
    obtain ⟨h3, h4⟩ := kdL_lay r fun b hb => h b (List.mem_append_right _ hb)
    rw [kdL, Ty.orderL]
    constructor
    · rw [PyData.canLayAll0, h1, h3]
      rfl
    · rw [PyData.depthAll]
      omega
end
theorem kd_empty (l : List Ty) : PyData.eqv (.tuple (kdL l)) (.tuple []) = l.isEmpty := by
  cases l with
  | nil => rw [kdL]; rfl
  | cons t r => rw [kdL]; rfl

/-! ### the text of a kind, by the law -/
def spr__law_text (n : Nat) (_ : PySem.W.Frag) : Sp := fun vs H Q _ => ∃ v t, vs = [v] ∧ IsK H t v ∧ t.order < n ∧ t.Fits ∧ ∀ H', Same H H' → Q (.str t.text) H'
def sp__law_text (K : PySem.W.Frag) : Sp := spr__law_text 6 K
theorem kd_shaped {t : Ty} (f : t.Fits) : SeqAt.shaped (.tuple (kdL t.ins)) = true := by
  obtain ⟨h1, h2⟩ := kdL_lay t.ins fun a ha => strOk_ascii (f.words a (by rw [Ty.places_at]; exact List.mem_append_left _ ha)).2
  have o : Ty.orderL t.ins ≤ 4 := by
    have := f.low
    cases t
    rw [Ty.order] at this
    exact this
  unfold SeqAt.shaped
  rw [PyData.canLay0, PyData.depth, h1]
  simp
  omega
section
variable {P : Program} {w : World} {K : PySem.W.Frag} {mg : Str → Option Value} {base : Heap} {C_Type : Addr}
theorem ok__law_text (T : Txt K mg C_Type C_Library) {f : Addr} {fd : FuncData} (F : Fun K "_law_text" "_law_text" s__law_text f fd) (M : mg "_law_text" = some (.ref f)) (B : Binds K fd ["_law_kind_here"] []) : ∀ n : Nat, FnOk P w K mg base CX0 (1 + n) f fd ["_law_kind_here"] (spr__law_text n K)
  | 0 => by
    refine F.ok sc__law_text (fun vs H Q E h => ?_) (fun cdv A outer s H vs Q E hr h => ?_) <;> (obtain ⟨_, _, _, _, z, _⟩ := h; exact absurd z (Nat.not_lt_zero _))
  | n + 1 => by
    have ih := ok__law_text T F M B n
    have C_self : CalN P w K mg base "_law_text" (1 + n) ["_law_kind_here"] (spr__law_text n K) := ⟨f, fd, ih, M, F.kp, B⟩
    have nd := sc__law_text.nd
    refine F.ok sc__law_text (fun vs H Q E h => ?_) (fun cdv A outer s H vs Q E hr h => ?_)
    · obtain ⟨v, t, rfl, _⟩ := h
      rfl
    · obtain ⟨v, t, rfl, ht, lo, ft, q⟩ := h
      have hr : Room (1 + n) (A.deeper (envOfC "_law_text" (defScope s__law_text) s.heap.objs.size f cdv)) := by
        exact hr
      refine ⟨_, (pss_cons (ps_set (i := 1) nd rfl (.inl rfl) (pe_lst pa_nil))
      (pss_cons (ps_for PassesOwn.never rfl (pi_tup (pe_ix ix_tup (pv 0) pe_int (fun _ _ => rfl))) (pg_name (i := 2) nd rfl (.inl rfl)) (pss_one (ps_expr (pe_bm PySem.F.plainAttrs_list PySem.F.slot_list_append PySem.F.type_list_append mt_append (pv 1) (pa_cons (pe_ifExp (pt_cmpR (op_eqD hr.units) (pe_ix ix_tup (pv 2) pe_int (fun _ _ => rfl)) (pe_tup pa_nil) (nomark _)) (pe_callN C_self (hr.mono (by first | decide | omega)) rfl (pa_cons (pv 2) pa_nil)) (pe_op op_add_str (pe_op op_add_str pe_str (pe_callN C_self (hr.mono (by first | decide | omega)) rfl (pa_cons (pv 2) pa_nil))) pe_str)) pa_nil)))))
      (pss_one (ps_ret (pe_join pe_str (pe_op op_cat (pv 1) (pe_lst (pa_cons (pe_ix ix_tup (pv 0) pe_int (fun _ _ => rfl)) pa_nil)))))))), ?_⟩
      obtain ⟨p, q', rs, rfl, hp, hq, hk⟩ := ht.at
      have lr := hk.len
      have ft' : (Ty.mk t.ins t.atom).Fits := by rw [Ty.mk_eta]; exact ft
      have eo : t.order = Ty.orderL t.ins := by cases t; rw [Ty.order]; rfl
      have few := Fits_ins_len ft
      refine ⟨Nat.zero_le _, fun l1 hl1 => ?_⟩
      have s1 : Same H (upd H l1 (.lst [])) := (Same.refl H).new hl1
      refine asg_go ?_
      dsimp only
      refine ⟨.ref p, rfl, p, _, 0, _, rfl, rfl, SqT.of (s1 _ _ hp), rfl, q', rfl, ⟨rs, SqT.of (s1 _ _ hq)⟩, ?_⟩
      refine for_tup (xs := rs) (fun i σ' H' => (∃ s2, σ' = [some (.ref p), some (.ref l1), s2]) ∧ H' l1 = some (.lst (((t.ins.take i).map Ty.inside).map V.str)) ∧ Same H H') ?_ (fun i σ' H' _ hP => SqT.of (hP.2.2 _ _ hq)) (fun i y σ' H' hy hP => ?_) (fun σ' H' hP => ?_)
      · exact ⟨⟨none, rfl⟩, by rw [upd_same, List.take_zero]; rfl, s1⟩
      · obtain ⟨⟨s2, rfl⟩, hl, sm⟩ := hP
        obtain ⟨s, es, hs⟩ := hk.get hy
        have sm' := List.mem_of_getElem? es
        have lo' : s.order < n := by
          have := Ty.low_ins sm'
          omega
        have fs := ft'.ins sm'
        have hs1 := IsK.held sm.held s y hs
        obtain ⟨py, qy, ry, rfl, hpy, hqy, hky⟩ := hs1.at
        have io := lt_of_get hy
        rw [lr] at io
        have txl := Ty.text_small fs.words fs.few
        refine ⟨.ref l1, rfl, .inl ⟨rfl, _, SqL.of hl⟩, .ref py, rfl, py, _, 0, _, rfl, rfl, SqT.of hpy, rfl, Nat.zero_le _, fun e he => ?_⟩
        have se : Same H' (upd H' e (.tup [])) := (Same.refl H').new he
        refine ⟨.tuple (kdL s.ins), .tuple [], .tup (SqT.of (se _ _ hqy)) (IsKs.dp _ _ (IsKs.held se.held _ _ hky)), .tup (SqT.of upd_same) .nil, kd_shaped fs, by decide +kernel, s.ins.isEmpty, congrArg V.bl (kd_empty s.ins), ?_⟩
        have fin : ∀ H2, Same (upd H' e (.tup [])) H2 → rAppend (.ref l1) [.str s.inside] H2 (fun _ H3 => (∃ s2, ([some (.ref p), some (.ref l1), s2] : L2.St).set 2 (some (.ref py)) = [some (.ref p), some (.ref l1), some (.ref py)]) ∧ H3 l1 = some (.lst (((t.ins.take (i + 1)).map Ty.inside).map V.str)) ∧ Same H H3) := fun H2 s4 => by
          refine ⟨l1, _, .str s.inside, rfl, rfl, s4 _ _ (se _ _ hl), lt_line' (by rw [List.length_map, List.length_map, List.length_take]; omega), ⟨s2, rfl⟩, ?_, (sm.trans (se.trans s4)).mut hl1⟩
          rw [upd_same, take_next es, List.map_append, List.map_append]
          rfl
        cases hc : s.ins.isEmpty with
        | true =>
          refine iteT ?_
          refine ⟨.ref py, rfl, .ref py, s, rfl, IsK.held se.held s _ hs1, lo', fs, fun H2 s4 => ?_⟩
          obtain ⟨l', xs', v', e1, e2, e3, e4, -, e5, e6⟩ := fin H2 s4
          have ei : s.inside = s.text := by rw [Ty.inside, if_pos hc]
          rw [ei] at e2
          refine ⟨l', xs', v', e1, e2, e3, e4, ⟨_, rfl⟩, e5, e6⟩
        | false =>
          refine iteF ?_
          refine ⟨.ref py, rfl, .ref py, s, rfl, IsK.held se.held s _ hs1, lo', fs, fun H2 s4 => ⟨"(", s.text, rfl, rfl, ?_, "(" ++ s.text, ")", rfl, rfl, ?_, ?_⟩⟩
          · exact lt_line (by have : (("(" : Str)).length = 1 := by decide +kernel
                              omega)
          · rw [app_len]
            exact lt_line (by have h1 : (("(" : Str)).length = 1 := by decide +kernel
                              have h2 : ((")" : Str)).length = 1 := by decide +kernel
                              omega)
          obtain ⟨l', xs', v', e1, e2, e3, e4, -, e5, e6⟩ := fin H2 s4
          have ei : s.inside = ("(" : Str) ++ s.text ++ (")" : Str) := by rw [Ty.inside, if_neg (by rw [hc]; decide)]
          rw [ei] at e2
          exact ⟨l', xs', v', e1, e2, e3, e4, ⟨_, rfl⟩, e5, e6⟩
      · obtain ⟨⟨s2, rfl⟩, hl, sm⟩ := hP
        rw [lr, List.take_length, ← Ty.insideL_map] at hl
        have ln : (Ty.insideL t.ins).length = t.ins.length := by rw [Ty.insideL_map, List.length_map]
        refine ⟨⟨" -> ", rfl⟩, .ref l1, rfl, .ref p, rfl, p, _, 1, _, rfl, rfl, SqT.of (sm _ _ hp), rfl, by show 1 ≤ sizeLine; decide, fun d1 h1 => ⟨l1, d1, _, [.str t.atom], rfl, rfl, by rw [upd_ne (ne_of_none hl h1)]; exact hl, upd_same, lt_line (by rw [List.length_map]; show _ + 1 ≤ _; omega), fun d2 h2 => ?_⟩⟩
        have s9 := (sm.new (o := .lst [.str t.atom]) h1).new (o := .lst ((Ty.insideL t.ins).map V.str ++ [.str t.atom])) h2
        refine ⟨" -> ", d2, Ty.insideL t.ins ++ [t.atom], rfl, rfl, .inl (SqL.of ?_), ?_, ?_⟩
        · rw [upd_same, List.map_append]
          rfl
        · have i1 := Ty.insideL_len t.ins (fun b hb => (isW_len (ft.words b (by rw [Ty.places_at]; exact List.mem_append_left _ hb)).1).2)
          have i2 := (isW_len (ft.words t.atom (by rw [Ty.places_at]; exact List.mem_append_right _ (List.mem_singleton.mpr rfl))).1).2
          have i3 : (Ty.placesL t.ins).length + 1 ≤ 15 := by
            have := ft.few
            rw [Ty.places_at, List.length_append] at this
            exact this
          have i4 : ((" -> " : Str)).length = 4 := by decide +kernel
          rw [List.map_append, List.sum_append, List.length_append, i4, ln]
          show _ + (t.atom.length + 0) + (_ + 1) * 4 ≤ _
          omega
        · have et : t.text = Txt.join " -> " (Ty.insideL t.ins ++ [t.atom]) := by cases t; rw [Ty.text]; rfl
          rw [← et]
          exact q _ s9
end

/-! ### the order of a kind, by the law -/
def spr__law_order (n : Nat) (_ : PySem.W.Frag) : Sp := fun vs H Q _ => ∃ v t, vs = [v] ∧ IsK H t v ∧ t.order < n ∧ t.Fits ∧ ∀ H', Same H H' → Q (.int (t.order : Nat)) H'
def sp__law_order (K : PySem.W.Frag) : Sp := spr__law_order 6 K
section
variable {P : Program} {w : World} {K : PySem.W.Frag} {mg : Str → Option Value} {base : Heap} {C_Type : Addr}
end

/-! ### a row of texts in order, no two alike, is settled by its members -/
theorem lt_trans_no : ∀ a b c : List Nat, ltCps b a = false → ltCps c b = false → ltCps c a = false
  | [], _, c, _, _ => by cases c <;> rfl
  | x :: r, [], _, h, _ => by cases h
  | x :: r, y :: s, [], _, h => by cases h
  | x :: r, y :: s, z :: t, h1, h2 => by
    unfold ltCps at h1 h2 ⊢
    simp only [Bool.or_eq_false_iff, Bool.and_eq_false_iff, decide_eq_false_iff_not, beq_eq_false_iff_ne] at h1 h2 ⊢
    obtain ⟨a1, a2⟩ := h1
    obtain ⟨b1, b2⟩ := h2
    refine ⟨by omega, ?_⟩
    by_cases e : z = x
    · have e1 : y = x := by omega
      have e2 : z = y := by omega
      exact .inr (lt_trans_no r s t (a2.resolve_left fun k => k e1) (b2.resolve_left fun k => k e2))
    · exact .inl e
theorem lt_both_no : ∀ a b : List Nat, ltCps a b = false → ltCps b a = false → a = b
  | [], [], _, _ => rfl
  | [], _ :: _, h, _ => by cases h
  | _ :: _, [], _, h => by cases h
  | x :: r, y :: s, h1, h2 => by
    unfold ltCps at h1 h2
    simp only [Bool.or_eq_false_iff, Bool.and_eq_false_iff, decide_eq_false_iff_not, beq_eq_false_iff_ne] at h1 h2
    obtain ⟨a1, a2⟩ := h1
    obtain ⟨b1, b2⟩ := h2
    have e : x = y := by omega
    rw [e, lt_both_no r s (a2.resolve_left fun k => k e) (b2.resolve_left fun k => k e.symm)]
theorem rising_all : ∀ (p : Str) (l : List Str), risingS p l = true → ∀ x ∈ l, ltCps x.cps.toList p.cps.toList = false
  | _, [], _, _, h => by cases h
  | p, y :: r, h, x, hx => by
    unfold risingS at h
    obtain ⟨h1, h2⟩ := Bool.and_eq_true_iff.mp h
    have h1 : ltCps y.cps.toList p.cps.toList = false := by simpa using h1
    rcases List.mem_cons.mp hx with rfl | hx
    · exact h1
    · exact lt_trans_no _ _ _ h1 (rising_all y r h2 x hx)
theorem rising_tail {p : Str} : ∀ {l : List Str}, risingS p l = true → sortedS l = true
  | [], _ => rfl
  | y :: r, h => by
    unfold risingS at h
    exact (Bool.and_eq_true_iff.mp h).2
theorem sorted_one : ∀ (ys zs : List Str), sortedS ys = true → sortedS zs = true → ys.Nodup → zs.Nodup → (∀ x, x ∈ ys ↔ x ∈ zs) → ys = zs
  | [], [], _, _, _, _, _ => rfl
  | [], z :: t, _, _, _, _, h => by cases (h z).mpr (List.mem_cons_self ..)
  | x :: r, [], _, _, _, _, h => by cases (h x).mp (List.mem_cons_self ..)
  | x :: r, z :: t, sy, sz, ny, nz, h => by
    have hx := rising_all x r sy
    have hz := rising_all z t sz
    have self : ∀ a : List Nat, ltCps a a = false := by
      intro a
      induction a with
      | nil => rfl
      | cons n r ih => unfold ltCps; simp [ih]
    have e : x = z := by
      have e1 : ltCps x.cps.toList z.cps.toList = false := by
        rcases List.mem_cons.mp ((h x).mp (List.mem_cons_self ..)) with k | k
        · rw [k]; exact self _
        · exact hz x k
      have e2 : ltCps z.cps.toList x.cps.toList = false := by
        rcases List.mem_cons.mp ((h z).mpr (List.mem_cons_self ..)) with k | k
        · rw [k]; exact self _
        · exact hx z k
      have e3 := lt_both_no _ _ e1 e2
      cases x
      cases z
      exact congrArg _ (Array.toList_inj.mp e3)
    subst e
    obtain ⟨n1, n2⟩ := List.nodup_cons.mp ny
    obtain ⟨m1, m2⟩ := List.nodup_cons.mp nz
    rw [sorted_one r t (rising_tail sy) (rising_tail sz) n2 m2 fun u => ⟨fun k => ?_, fun k => ?_⟩]
    · rcases List.mem_cons.mp ((h u).mp (List.mem_cons_of_mem _ k)) with e | e
      · exact absurd (e ▸ k) n1
      · exact e
    · rcases List.mem_cons.mp ((h u).mpr (List.mem_cons_of_mem _ k)) with e | e
      · exact absurd (e ▸ k) m1
      · exact e

theorem ixat {n : Nat} {r : Int} (h0 : 0 ≤ r) (h1 : r < n) : seqIndex? r n = some r.toNat := by
  have e : ixN n r = some r.toNat := by
    unfold ixN
    rw [if_pos h0, if_pos h1]
  exact (ixN_seq e).1
/-! ### _law_some, told exactly: what is left and what is taken are together the given row -/
def sp__law_some2 (K : PySem.W.Frag) : Sp := fun vs H Q _ => ∃ (d l : Addr) (xs : List V) (n : Nat), vs = [.ref d, .ref l, .int n] ∧ IsDice H d ∧ SqL K H l xs ∧ l ≠ d ∧ xs.length < 1000000 ∧ n ≤ xs.length ∧
  ∀ p ys left H', (ys ++ left).Perm xs → ys.length = n → H p = none → p ≠ d → H' p = some (.lst ys) → Ext d H H' → IsDice H' d → Q (.ref p) H'
section
variable {P : Program} {w : World} {K : PySem.W.Frag} {mg : Str → Option Value} {base : Heap} {C_Type : Addr}
theorem ok__law_some (T : Txt K mg C_Type C_Library) (c__law_roll : CalN P w K mg base "_law_roll" 1 ["_law_dice_here", "_law_total"] (sp__law_roll K)) {f : Addr} {fd : FuncData} (F : Fun K "_law_some" "_law_some" s__law_some f fd) : FnOk P w K mg base CX0 2 f fd ["_law_dice_here", "_law_items", "_law_size"] (sp__law_some2 K) := by
  have nd := sc__law_some.nd
  refine F.ok sc__law_some (fun vs H Q E h => ?_) (fun cdv A outer s H vs Q E hr h => ?_)
  · obtain ⟨d, l, xs, n, rfl, _⟩ := h
    rfl
  · obtain ⟨d, l, xs, n, rfl, hd, hl, ne, hz, nx, q⟩ := h
    have n0 : (0 : Int) ≤ n := Int.natCast_nonneg n
    refine ⟨_, (pss_cons (ps_set (i := 3) nd rfl (.inr rfl) (pe_callTy call_list_of (by rfl) T.b_list (by decide +kernel) (pa_cons (pv 1) pa_nil)))
      (pss_one (ps_ret (pe_lcD (own := [("_law_turn", 4)]) (by rfl) nd (pi_range1 (by rfl) T.b_range (pa_cons (pe_callB (call_min2 rfl) (by rfl) T.b_min (by decide +kernel) (pa_cons (pv 2) (pa_cons (pe_callB call_len (by rfl) T.b_len (by decide +kernel) (pa_cons (pv 3) pa_nil)) pa_nil))) pa_nil)) (blkOk_by (own := [("_law_turn", 4)]) (N := ["_law_dice_here", "_law_items", "_law_size", "_law_left", "_law_turn"]) (sc := (defScope s__law_some)) (by decide +kernel)) (fun _ _ _ _ _ => pg_name (i := 4) nd rfl (Or.inl rfl)) (fun _ _ _ _ _ => pts_nil) (fun _ _ _ _ _ => (pe_bm PySem.F.plainAttrs_list PySem.F.slot_list_pop PySem.F.type_list_pop mt_popAt (pv 3) (pa_cons (pe_callN c__law_roll (hr.mono (by first | decide | omega)) rfl (pa_cons (pv 0) (pa_cons (pe_callB call_len (by rfl) T.b_len (by decide +kernel) (pa_cons (pv 3) pa_nil)) pa_nil))) pa_nil))))))), ?_⟩
    refine ⟨.ref l, rfl, l, xs, rfl, .inl hl, fun p hp => ?_⟩
    have nep : p ≠ d := hd.ne hp
    have e1 : Ext d H (upd H p (.lst xs)) := (Ext.refl H).new hp
    have d1 := hd.new (o := .lst xs) hp
    refine ⟨.int n, rfl, .ref p, rfl, .ref p, xs.length, rfl, .inl ⟨xs, SqL.of upd_same, rfl⟩, (n : Int), _, rfl, _, rfl, ?_, ?_, fun D hD => ?_⟩
    · by_cases h : (xs.length : Int) < n <;> simp only [h, if_true, if_false] <;> omega
    · by_cases h : (xs.length : Int) < n <;> simp only [h, if_true, if_false] <;> omega
    have neD : D ≠ d := d1.ne hD
    have npD : p ≠ D := fun z => by
      rw [← z, upd_same] at hD
      cases hD
    have hDH : H D = none := e1.none neD hD
    have hm : (if (xs.length : Int) < n then (xs.length : Int) else n).toNat ≤ xs.length := by
      by_cases h : (xs.length : Int) < n <;> simp only [h, if_true, if_false] <;> omega
    refine lc_range (lo := 0) (n := (if (xs.length : Int) < n then (xs.length : Int) else n).toNat)
      (fun i H' => ∃ left ys : List V, H' p = some (.lst left) ∧ H' D = some (.lst ys) ∧ left.length + i = xs.length ∧ ys.length = i ∧ (ys ++ left).Perm xs ∧ Ext d H H' ∧ IsDice H' d) ?_ (fun i H1 hi hP => ?_) (fun H1 hP => ?_)
    · exact ⟨xs, [], by rw [upd_ne npD]; exact upd_same, upd_same, by simp, rfl, List.Perm.refl _, e1.new hD, d1.mut neD⟩
    · obtain ⟨left, ys, hp1, hD1, el, ey, pm, e2, d2⟩ := hP
      refine ⟨rfl, tyes ?_⟩
      have l0 : 0 < left.length := by omega
      refine ⟨.ref p, rfl, .inl ⟨rfl, _, SqL.of hp1⟩, .ref d, rfl, .ref p, rfl, .ref p, left.length, rfl, .inl ⟨left, SqL.of hp1, rfl⟩, ?_⟩
      refine ⟨d, (left.length : Int), rfl, d2, by omega, by omega, fun r H2 r0 r1 e3 d3 => ?_⟩
      have hr' : r.toNat < left.length := by omega
      refine ⟨p, left, r, r.toNat, left[r.toNat], rfl, rfl, e3 _ _ nep hp1, by omega, by omega, ixat r0 r1, List.getElem?_eq_getElem hr', ?_⟩
      have hD2 : H2 D = some (.lst ys) := e3 _ _ neD hD1
      refine ⟨ys, by rw [upd_ne npD.symm]; exact hD2, lt_line' (by omega), left.eraseIdx r.toNat, ys ++ [left[r.toNat]], by rw [upd_ne npD]; exact upd_same, upd_same, ?_, ?_, ?_, ?_, ?_⟩
      · rw [List.length_eraseIdx_of_lt hr']
        omega
      · simp [ey]
      · refine List.Perm.trans ?_ pm
        rw [List.append_assoc]
        exact (erase_perm left r.toNat _ (List.getElem?_eq_getElem hr')).append_left ys
      · exact ((e2.trans e3).mut hp).mut hDH
      · exact (d3.mut nep).mut neD
    · obtain ⟨left, ys, hp1, hD1, el, ey, pm, e2, d2⟩ := hP
      refine q D ys left H1 pm ?_ hDH neD hD1 e2 d2
      rw [ey]
      by_cases h : (xs.length : Int) < n <;> simp only [h, if_true, if_false] <;> omega
end


end My
namespace My
open PySem PySem.Spec PyProof.Rows L2 TL
/-! ### plain libraries: dicts of names to plain kinds -/
def IsQ (H : Hp) : Lib → List (Key × V) → Prop
  | [], kvs => kvs = []
  | e :: r, kvs => ∃ v ks, kvs = ((Sum.inr e.1 : Key), v) :: ks ∧ IsK H e.2 v ∧ IsQ H r ks
theorem IsQ.held {H H' : Hp} (s : Held H H') : ∀ {L : Lib} {kvs : List (Key × V)}, IsQ H L kvs → IsQ H' L kvs
  | [], _, h => h
  | e :: r, kvs, h => by
    obtain ⟨v, ks, e1, h1, h2⟩ := h
    exact ⟨v, ks, e1, IsK.held s _ _ h1, IsQ.held s h2⟩
theorem IsQ.keys {H : Hp} : ∀ {L : Lib} {kvs : List (Key × V)}, IsQ H L kvs → kvs.map (·.1) = L.names.map Sum.inr
  | [], _, h => by rw [show _ = _ from h]; rfl
  | e :: r, kvs, h => by
    obtain ⟨v, ks, rfl, h1, h2⟩ := h
    rw [List.map_cons, h2.keys]
    rfl
theorem IsQ.len {H : Hp} {L : Lib} {kvs : List (Key × V)} (h : IsQ H L kvs) : kvs.length = L.length := by
  have e := congrArg List.length h.keys
  rw [List.length_map, List.length_map, Lib.names, List.length_map] at e
  exact e
theorem IsQ.at_ {H : Hp} : ∀ {L : Lib} {kvs : List (Key × V)} {i : Nat} {k : Key} {v : V}, IsQ H L kvs → kvs[i]? = some (k, v) → ∃ e, L[i]? = some e ∧ k = Sum.inr e.1 ∧ IsK H e.2 v
  | [], _, i, k, v, h, z => by
    rw [show _ = _ from h] at z
    cases z
  | e :: r, kvs, i, k, v, h, z => by
    obtain ⟨v', ks, rfl, h1, h2⟩ := h
    cases i with
    | zero => cases z; exact ⟨e, rfl, rfl, h1⟩
    | succ i => exact IsQ.at_ (L := r) (i := i) h2 z
theorem IsQ.get {H : Hp} {n : Str} : ∀ {L : Lib} {kvs : List (Key × V)}, IsQ H L kvs → (L.get n = none ∧ valV kvs (Sum.inr n) = none) ∨ ∃ t v, L.get n = some t ∧ valV kvs (Sum.inr n) = some v ∧ IsK H t v
  | [], kvs, h => by
    rw [show kvs = [] from h]
    exact .inl ⟨rfl, rfl⟩
  | e :: r, kvs, h => by
    obtain ⟨v, ks, rfl, h1, h2⟩ := h
    by_cases z : e.1 = n
    · refine .inr ⟨e.2, v, ?_, valV_pos (congrArg Sum.inr z), h1⟩
      rw [Lib.get, List.find?_cons_of_pos (by simpa using z)]
      rfl
    · rw [valV_neg (p := (Sum.inr e.1, v)) (fun q => z (Sum.inr.inj q)), show Lib.get (e :: r) n = Lib.get r n by rw [Lib.get, List.find?_cons_of_neg (by simpa using z)]; rfl]
      exact h2.get
theorem IsQ.val_of {H : Hp} {L : Lib} {kvs : List (Key × V)} (h : IsQ H L kvs) (nd : L.names.Nodup) {e : Str × Ty} (m : e ∈ L) : ∃ v, valV kvs (Sum.inr e.1) = some v ∧ IsK H e.2 v := by
  have g := Lib.get_mem nd m
  rcases h.get (n := e.1) with ⟨z, _⟩ | ⟨t, v, z, ev, ht⟩
  · rw [g] at z
    cases z
  · rw [g] at z
    cases z
    exact ⟨v, ev, ht⟩
theorem IsQ.isSome {H : Hp} {L : Lib} {kvs : List (Key × V)} (h : IsQ H L kvs) (n : Str) : (valV kvs (Sum.inr n)).isSome = decide (n ∈ L.names) := by
  by_cases c : n ∈ L.names
  · obtain ⟨t, et⟩ := Lib.get_in c
    rcases h.get (n := n) with ⟨z, _⟩ | ⟨t', v, _, ev, _⟩
    · rw [et] at z
      cases z
    · rw [ev, decide_eq_true c]
      rfl
  · rcases h.get (n := n) with ⟨_, z⟩ | ⟨t', v, z, _, _⟩
    · rw [z, decide_eq_false c]
      rfl
    · rw [Lib.get_none c] at z
      cases z
theorem IsQ.none_of {H : Hp} {L : Lib} {kvs : List (Key × V)} {n : Str} (h : IsQ H L kvs) (m : n ∉ L.names) : valV kvs (Sum.inr n) = none := by
  rcases h.get (n := n) with ⟨_, z⟩ | ⟨t, v, z, _, _⟩
  · exact z
  · rw [Lib.get_none m] at z
    cases z
theorem IsQ.app {H : Hp} {e : Str × Ty} {v : V} : ∀ {L : Lib} {kvs : List (Key × V)}, IsQ H L kvs → IsK H e.2 v → IsQ H (L ++ [e]) (kvs ++ [(Sum.inr e.1, v)])
  | [], kvs, h, t => by
    rw [show kvs = [] from h]
    exact ⟨v, [], rfl, t, rfl⟩
  | a :: r, kvs, h, t => by
    obtain ⟨v', ks, rfl, h1, h2⟩ := h
    exact ⟨v', ks ++ [_], rfl, h1, h2.app t⟩
theorem val_at {kvs : List (Key × V)} (nk : (kvs.map (·.1)).Nodup) {i : Nat} {k : Key} {v : V} (z : kvs[i]? = some (k, v)) : valV kvs k = some v := by
  induction kvs generalizing i with
  | nil => cases z
  | cons p r ih =>
    rw [List.map_cons, List.nodup_cons] at nk
    cases i with
    | zero => cases z; exact valV_pos rfl
    | succ i =>
      have m : (k, v) ∈ r := List.mem_of_getElem? z
      rw [valV_neg (fun q => nk.1 (q ▸ List.mem_map.mpr ⟨_, m, rfl⟩))]
      exact ih nk.2 z
theorem names_keys {L : Lib} (nd : L.names.Nodup) {kvs : List (Key × V)} (h : kvs.map (·.1) = L.names.map Sum.inr) : (kvs.map (·.1)).Nodup := by
  rw [h]
  exact (List.pairwise_map.mpr (List.Pairwise.imp (fun a b => a (Sum.inr.inj b)) nd))
/-- a name taken away -/
def Lib.less (L : Lib) (n : Str) : Lib := L.filter fun e => decide (e.1 ≠ n)
theorem IsQ.drop {H : Hp} {n : Str} : ∀ {L : Lib} {kvs : List (Key × V)}, IsQ H L kvs → IsQ H (L.less n) (dropK kvs (Sum.inr n))
  | [], kvs, h => by
    rw [show kvs = [] from h]
    rfl
  | e :: r, kvs, h => by
    obtain ⟨v, ks, rfl, h1, h2⟩ := h
    by_cases z : e.1 = n
    · have d : dropK (((Sum.inr e.1 : Key), v) :: ks) (Sum.inr n) = dropK ks (Sum.inr n) := by
        rw [dropK, List.filter_cons_of_neg (by simp [z])]
        rfl
      rw [d, show Lib.less (e :: r) n = Lib.less r n by rw [Lib.less, List.filter_cons_of_neg (by simp [z])]; rfl]
      exact h2.drop
    · have d : dropK (((Sum.inr e.1 : Key), v) :: ks) (Sum.inr n) = (Sum.inr e.1, v) :: dropK ks (Sum.inr n) := by
        rw [dropK, List.filter_cons_of_pos (by simp [z])]
        rfl
      rw [d, show Lib.less (e :: r) n = e :: Lib.less r n by rw [Lib.less, List.filter_cons_of_pos (by simp [z])]; rfl]
      exact ⟨v, _, rfl, h1, h2.drop⟩
theorem mergeK_app : ∀ (more kvs : List (Key × V)), ((kvs ++ more).map (·.1)).Nodup → mergeK kvs more = kvs ++ more
  | [], kvs, _ => by rw [List.append_nil]; rfl
  | p :: r, kvs, nd => by
    have out : valV kvs p.1 = none := by
      cases z : valV kvs p.1 with
      | none => rfl
      | some v =>
        unfold valV at z
        cases y : kvs.find? (fun kv => decide (kv.1 = p.1)) with
        | none => rw [y] at z; cases z
        | some q =>
          have h1 : q.1 = p.1 := by simpa using List.find?_some y
          have h2 := List.mem_of_find?_eq_some y
          rw [List.map_append, List.nodup_append] at nd
          exact absurd h1 (nd.2.2 _ (List.mem_map.mpr ⟨q, h2, rfl⟩) _ (List.mem_map.mpr ⟨p, List.mem_cons_self .., rfl⟩))
    show mergeK (putK kvs p.1 p.2) r = _
    rw [putK_new _ out, mergeK_app r _ (by rw [List.append_assoc]; exact nd), List.append_assoc]
    rfl
/-- what the law draws: few parts with small kinds, names of one letter -/
structure Lib.Drawn (L : Lib) : Prop where
  fine : L.Fine
  five : L.length ≤ 5
  small : ∀ e ∈ L, e.2.places.length ≤ 4 ∧ e.2.order ≤ 2
  short : ∀ e ∈ L, e.1.length = 1
/-- small kinds -/
structure Lib.Small (L : Lib) : Prop where
  fine : L.Fine
  small : ∀ e ∈ L, e.2.places.length ≤ 4 ∧ e.2.order ≤ 2
theorem Lib.Drawn.toSmall {L : Lib} (h : L.Drawn) : L.Small := ⟨h.fine, h.small⟩
theorem wd_of {a : Str} (h : isW (.str a) = true ∧ a.cps.toList.all (fun c => decide (c < 128)) = true) : Wd a := ⟨h.1, fun c hc => of_decide_eq_true (List.all_eq_true.mp h.2 c hc)⟩
theorem kind_fits {t : Ty} {A : List Str} (hA : ∀ a ∈ A, Wd a) (h1 : ∀ x ∈ t.places, x ∈ A) (h2 : t.places.length ≤ 15) (h3 : t.order ≤ 4) : t.Fits := ⟨fun a ha => hA a (h1 a ha), h2, h3⟩
theorem Lib.Drawn.nil : Lib.Drawn [] := ⟨Lib.fine_nil, by decide, fun _ h => absurd h List.not_mem_nil, fun _ h => absurd h List.not_mem_nil⟩
theorem Lib.Drawn.add {L : Lib} (h : L.Drawn) {n : Str} {t : Ty} (wn : Wd n) (ft : t.Fits) (l1 : n.length = 1) (s1 : t.places.length ≤ 4) (s2 : t.order ≤ 2) (out : n ∉ L.names) (l4 : L.length ≤ 4) : Lib.Drawn (L ++ [(n, t)]) := by
  refine ⟨⟨fun e he => ?_, fun e he => ?_, by rw [List.length_append]; show _ + 1 ≤ _; omega, ?_⟩, by rw [List.length_append]; show _ + 1 ≤ _; omega, fun e he => ?_, fun e he => ?_⟩
  · rcases List.mem_append.mp he with he | he
    · exact h.fine.words e he
    · rw [List.mem_singleton.mp he]
      exact wn
  · rcases List.mem_append.mp he with he | he
    · exact h.fine.fits e he
    · rw [List.mem_singleton.mp he]
      exact ft
  · rw [Lib.names, List.map_append, List.nodup_append]
    refine ⟨h.fine.nodup, List.nodup_cons.mpr ⟨List.not_mem_nil, List.nodup_nil⟩, fun a ha b hb => ?_⟩
    rw [List.map_cons, List.map_nil, List.mem_singleton] at hb
    subst hb
    exact fun z => out (z ▸ ha)
  · rcases List.mem_append.mp he with he | he
    · exact h.small e he
    · rw [List.mem_singleton.mp he]
      exact ⟨s1, s2⟩
  · rcases List.mem_append.mp he with he | he
    · exact h.short e he
    · rw [List.mem_singleton.mp he]
      exact l1
def wdB (a : Str) : Bool := isW (.str a) && a.cps.toList.all (fun c => decide (c < 128))
def drawnB (L : Lib) : Bool := L.all (fun e => wdB e.1 && e.2.places.all wdB && decide (e.2.places.length ≤ 4) && decide (e.2.order ≤ 2) && decide (e.1.length = 1)) && decide (L.length ≤ 5) && decide L.names.Nodup
theorem wdB_wd {a : Str} (h : wdB a = true) : Wd a := wd_of (by simpa [wdB] using h)
theorem drawn_of {L : Lib} (h : drawnB L = true) : L.Drawn := by
  unfold drawnB at h
  rw [Bool.and_eq_true, Bool.and_eq_true, List.all_eq_true] at h
  obtain ⟨⟨h1, h2⟩, h3⟩ := h
  have h2 := of_decide_eq_true h2
  have h3 := of_decide_eq_true h3
  have at_ : ∀ e ∈ L, wdB e.1 = true ∧ e.2.places.all wdB = true ∧ e.2.places.length ≤ 4 ∧ e.2.order ≤ 2 ∧ e.1.length = 1 := fun e he => by
    have := h1 e he
    simp only [Bool.and_eq_true, decide_eq_true_eq] at this
    obtain ⟨⟨⟨⟨a, b⟩, c⟩, d⟩, f⟩ := this
    exact ⟨a, b, c, d, f⟩
  refine ⟨⟨fun e he => wdB_wd (at_ e he).1, fun e he => ⟨fun a ha => wdB_wd (List.all_eq_true.mp (at_ e he).2.1 a ha), ?_, ?_⟩, by omega, h3⟩, h2, fun e he => ⟨(at_ e he).2.2.1, (at_ e he).2.2.2.1⟩, fun e he => (at_ e he).2.2.2.2⟩
  · have := (at_ e he).2.2.1
    omega
  · have := (at_ e he).2.2.2.1
    omega
theorem Ext.heldD {d : Addr} {H H' : Hp} (e : Ext d H H') (D : IsDice H d) : HeldD H H' := fun b o hb f => by
  refine e b o (fun z => ?_) hb
  subst z
  obtain ⟨x, y, z, q⟩ := D
  rw [q] at hb
  cases hb
  exact f


end My
namespace My
open PySem PySem.Spec PyProof.Rows L2 TL
/-! ### libraries of kinds with at most five places -/
structure Lib.Small5 (L : Lib) : Prop where
  fine : L.Fine
  small : ∀ e ∈ L, e.2.places.length ≤ 5 ∧ e.2.order ≤ 2
theorem Lib.Small5.five {L : Lib} (h : L.Small5) : L.length ≤ 8 := h.fine.few
theorem Lib.Drawn.toSmall5 {L : Lib} (h : L.Drawn) : L.Small5 := ⟨h.fine, fun e he => ⟨Nat.le_trans (h.small e he).1 (by decide), (h.small e he).2⟩⟩
theorem Lib.Small5.perm {L M : Lib} (h : L.Small5) (p : List.Perm M L) : M.Small5 := ⟨h.fine.perm p, fun e he => h.small e (p.mem_iff.mp he)⟩
theorem Lib.Small5.filter {L : Lib} (h : L.Small5) (p : Str × Ty → Bool) : Lib.Small5 (L.filter p) := ⟨h.fine.filter p, fun e he => h.small e (List.mem_filter.mp he).1⟩
/-! ### a list of pairs that grows -/
theorem pairs_add {H : Hp} {D p1 : Addr} {ps : List Addr} {ks : List (Key × V)} {n : Str} {v : V} (hD : H D = some (.lst (ps.map V.ref))) (pr : Paired (fun p kv => H p = some (.tup [kV kv.1, kv.2])) ps ks) (h1 : H p1 = none) :
    (upd (upd H p1 (.tup [V.str n, v])) D (.lst (ps.map V.ref ++ [.ref p1]))) D = some (.lst ((ps ++ [p1]).map V.ref)) ∧
    Paired (fun p kv => (upd (upd H p1 (.tup [V.str n, v])) D (.lst (ps.map V.ref ++ [.ref p1]))) p = some (.tup [kV kv.1, kv.2])) (ps ++ [p1]) (ks ++ [((Sum.inr n : Key), v)]) ∧
    Held H (upd (upd H p1 (.tup [V.str n, v])) D (.lst (ps.map V.ref ++ [.ref p1]))) := by
  have s6 := (Same.refl H).new (o := .tup [V.str n, v]) h1
  have mv : ∀ (b : Addr) (xs : List V), H b = some (.tup xs) → upd (upd H p1 (.tup [V.str n, v])) D (.lst (ps.map V.ref ++ [.ref p1])) b = some (.tup xs) := fun b xs hb => by
    rw [upd_ne (ne_of hb hD (fun z => nomatch z))]
    exact s6 _ _ hb
  refine ⟨by rw [upd_same, List.map_append]; rfl, Paired.snoc (Paired.mono (fun a b hab => mv _ _ hab) pr) ?_, s6.held.trans (held_lst (s6 _ _ hD))⟩
  show upd (upd H p1 (.tup [V.str n, v])) D _ p1 = some (.tup [V.str n, v])
  rw [upd_ne (ne_of_none hD h1).symm]
  exact upd_same
theorem pairs_free {H' : Hp} {l D : Addr} {od : Obj} {kvs ks : List (Key × V)} {ps : List Addr} {K : PySem.W.Frag} (kd : H' l = some (.frz od (.dK kvs))) (hD : H' D = some (.lst (ps.map V.ref))) (pr : Paired (fun p kv => H' p = some (.tup [kV kv.1, kv.2])) ps ks) :
    SqL K (upd H' l (.dK kvs)) D (ps.map V.ref) ∧ Paired (fun p kv => SqT K (upd H' l (.dK kvs)) p [kV kv.1, kv.2]) ps ks ∧ Held H' (upd H' l (.dK kvs)) := by
  refine ⟨SqL.of ((upd_ne (ne_of hD kd (fun z => nomatch z))).trans hD), Paired.mono (fun (a : Addr) (b : Key × V) (hab : H' a = some (.tup [kV b.1, b.2])) => SqT.of (by
    rw [upd_ne (ne_of hab kd (fun z => nomatch z))]
    exact hab)) pr, fun b o hb f => ?_⟩
  rw [upd_ne (ne_of hb kd (fun z => by rw [z] at f; exact f))]
  exact hb
theorem nodup_inr {l : List Str} (h : l.Nodup) : (l.map fun n => (Sum.inr n : Key)).Nodup := List.pairwise_map.mpr (List.Pairwise.imp (fun a b => a (Sum.inr.inj b)) h)
theorem look_of {ws : List (Str × Str)} {W : Str → Prop} (hw : ∀ w ∈ ws, W w.2) {a : Str} (h : a ∈ ws.map (·.1)) : ∃ z, look ws a = some z ∧ W z := by
  obtain ⟨p, hp, rfl⟩ := List.mem_map.mp h
  unfold look
  cases e : ws.find? (fun q => decide (q.1 = p.1)) with
  | none =>
    have := List.find?_eq_none.mp e p hp
    simp at this
  | some q => exact ⟨q.2, rfl, hw q (List.mem_of_find?_eq_some e)⟩


end My
namespace My
open PySem PySem.Spec PyProof.Rows L2 TL
set_option pp.maxSteps 400
set_option pp.deepTerms false
/-! ### a walk over a dict that is locked meanwhile -/
theorem for_keys {d : Addr} {o : Obj} {kvs : List (Key × V)} {g : TG} {tb : TS} {D : Ends} {σ : L2.St} {H : Hp} (Pv : Nat → L2.St → Hp → Prop) (h0 : Pv 0 σ H) (hl : ∀ i σ H, i ≤ kvs.length → Pv i σ H → H d = some (.frz o (.dK kvs)))
    (hs : ∀ i k v σ H, kvs[i]? = some (k, v) → Pv i σ H → g (kV k) σ H fun σ2 H2 => tb { D with nx := Pv (i + 1), ct := Pv (i + 1), bk := D.nx } σ2 H2) (hd : ∀ σ H, Pv kvs.length σ H → D.nx σ H) :
    ∃ W : Nat → Nat → L2.St → Hp → Prop, (∃ m, W 0 m σ H) ∧ ∀ i m σ H, W i m σ H →
      ((Itk d o kvs).stop i H ∧ D.nx σ H) ∨ ((Itk d o kvs).go i H ∧ ∃ N : L2.St → Hp → Prop, (∀ σ' H', N σ' H' → ∃ m', m' < m ∧ W (i + 1) m' σ' H') ∧ ∀ x H', (Itk d o kvs).yld i H x H' → g x σ H' fun σ2 H2 => tb { D with nx := N, ct := N, bk := D.nx } σ2 H2) := by
  refine ⟨fun i m σ H => m = kvs.length - i ∧ i ≤ kvs.length ∧ Pv i σ H, ⟨kvs.length, by simp, Nat.zero_le _, h0⟩, ?_⟩
  rintro i m σ H ⟨rfl, hi, p⟩
  by_cases hlt : i < kvs.length
  · refine .inr ⟨⟨hl i σ H hi p, hlt⟩, Pv (i + 1), fun σ' H' p' => ⟨kvs.length - (i + 1), by omega, rfl, hlt, p'⟩, fun x H' y => ?_⟩
    obtain ⟨e, k, v, ek, rfl⟩ := y
    subst e
    exact hs i k v σ _ ek p
  · have e : i = kvs.length := by omega
    exact .inl ⟨⟨hl i σ H hi p, by omega⟩, hd σ H (by rw [e] at p; exact p)⟩
theorem line_eq (e : Str × Ty) : e.1 ++ (" : " : Str) ++ e.2.text = Lib.line e := by
  rw [Lib.line]
  exact congrArg (fun x : Str => x ++ (" : " : Str) ++ e.2.text) (show e.1 = Str.empty ++ e.1 from by
    cases e.1
    show (⟨_⟩ : Str) = ⟨#[] ++ _⟩
    rw [Array.empty_append])
def sp__law_lines (_ : PySem.W.Frag) : Sp := fun vs H Q _ => ∃ d kvs, ∃ L : Lib, vs = [.ref d] ∧ H d = some (.dK kvs) ∧ IsQ H L kvs ∧ L.Small5 ∧ ∀ L' p H', List.Perm L' L → sortedS (Lib.names L') = true → Same H H' → H p = none → H' p = some (.lst ((Lib.lines L').map V.str)) → Q (.ref p) H'
def sp__law_made (K : PySem.W.Frag) (C D : Addr) : Sp := fun vs H Q _ => ∃ d kvs, ∃ L : Lib, vs = [.ref d] ∧ H d = some (.dK kvs) ∧ IsQ H L kvs ∧ L.Small5 ∧ ∀ L' x H', List.Perm L' L → sortedS (Lib.names L') = true → Same H H' → IsL C D H' L' (.ref x) → Q (.ref x) H'
def sp__law_library_atoms (_ : PySem.W.Frag) : Sp := fun vs H Q _ => ∃ d kvs, ∃ L : Lib, vs = [.ref d] ∧ H d = some (.dK kvs) ∧ IsQ H L kvs ∧ L.Small5 ∧ ∀ (p : Addr) (ys : List Str) H', Same H H' → H p = none → H' p = some (.lst (ys.map V.str)) → ys.Nodup → sortedS ys = true → (∀ a, a ∈ ys ↔ ∃ e ∈ L, a ∈ e.2.places) → ys.length ≤ 40 → Q (.ref p) H'
section
variable {P : Program} {w : World} {K : PySem.W.Frag} {mg : Str → Option Value} {base : Heap} {C_Type C_Library : Addr}
theorem ok__law_lines (T : Txt K mg C_Type C_Library) (c__law_text : CalN P w K mg base "_law_text" 7 ["_law_kind_here"] (sp__law_text K)) {f : Addr} {fd : FuncData} (F : Fun K "_law_lines" "_law_lines" s__law_lines f fd) : FnOk P w K mg base CX0 8 f fd ["_law_library_here"] (sp__law_lines K) := by
  have nd := sc__law_lines.nd
  refine F.ok sc__law_lines (fun vs H Q E h => ?_) (fun cdv A outer s H vs Q E hr h => ?_)
  · obtain ⟨d, kvs, L, rfl, _⟩ := h
    rfl
  · obtain ⟨d, kvs, L, rfl, hd, hp, dr, q⟩ := h
    refine ⟨_, (pss_one (ps_ret (pe_lcD (own := [("_law_name", 1)]) (by rfl) nd (pi_list (pe_callB (call_sortedD rfl) (by rfl) T.b_sorted (by decide +kernel) (pa_cons (pv 0) pa_nil))) (blkOk_by (own := [("_law_name", 1)]) (N := ["_law_library_here", "_law_name"]) (sc := (defScope s__law_lines)) (by decide +kernel)) (fun _ _ _ _ _ => pg_name (i := 1) nd rfl (Or.inl rfl)) (fun _ _ _ _ _ => pts_nil) (fun _ _ _ _ _ => (pe_op op_add_str (pe_op op_add_str (pv 1) pe_str) (pe_callN c__law_text (hr.mono (by first | decide | omega)) rfl (pa_cons (pe_dget (by first | exact Nat.lt_of_le_of_lt (Nat.add_le_add_left (by decide : 1 ≤ 64) _) hr.units | exact Nat.lt_of_le_of_lt (Nat.add_le_add_left (by decide : 4 ≤ 64) _) hr.units | exact Nat.lt_of_le_of_lt (Nat.add_le_add_left (by decide : 7 ≤ 64) _) hr.units) (pv 0) (pv 1) (fun _ _ => rfl)) pa_nil))))))), ?_⟩
    have five := dr.five
    refine ⟨.ref d, rfl, d, kvs, L.names, rfl, .inl hd, hp.keys, by rw [Lib.names, List.length_map]; omega, fun ys p pm so hpn => ⟨p, rfl, ⟨_, SqL.of upd_same⟩, fun D hD => ?_⟩⟩
    have s3 := (Same.refl H).new (o := .lst (ys.map V.str)) hpn
    have nD := s3.free hD
    have lp := Lib.pick_perm dr.fine.nodup pm
    have en : (L.pick ys).names = ys := Lib.pick_names
    have l5 : ys.length ≤ 8 := by
      rw [pm.length_eq, Lib.names, List.length_map]
      exact five
    refine lc_list (xs := ys.map V.str) (fun i H' => H' D = some (.lst ((Lib.lines (L.pick (ys.take i))).map V.str)) ∧ Same (upd H p (.lst (ys.map V.str))) H') ?_ (fun i H' _ hP => SqL.of (hP.2 _ _ upd_same)) (fun i y H' hy hP => ?_) (fun H' hP => ?_)
    · exact ⟨by rw [upd_same, List.take_zero]; rfl, (Same.refl _).mut hD⟩
    · obtain ⟨hD1, s4⟩ := hP
      have io := lt_of_get hy
      rw [List.length_map] at io
      rw [List.getElem?_map, List.getElem?_eq_getElem io] at hy
      cases hy
      have s24 := s3.trans s4
      obtain ⟨t, et⟩ := Lib.get_in (pm.mem_iff.mp (List.getElem_mem io))
      rcases (hp.held s24.held).get (n := ys[i]) with ⟨z, _⟩ | ⟨t', v, et', ev, ht⟩
      · rw [et] at z
        cases z
      rw [et] at et'
      cases et'
      have em := Lib.get_some et
      have ft := dr.fine.fits _ em
      have wn : Wd ys[i] := dr.fine.words _ em
      have sm := dr.small _ em
      have tz : t.text.length ≤ 300 := Ty.text_small ft.words ft.few
      have nl := isW_len wn.1
      have g : DGet H' d (.str ys[i]) (some v) := .inl ⟨kvs, Sum.inr ys[i], .inl (s24 _ _ hd), rfl, ev.symm⟩
      have u1 := len_app ys[i] (" : " : Str)
      rw [len_colon] at u1
      refine ⟨rfl, tyes ?_⟩
      refine ⟨.str ys[i], rfl, _, _, rfl, rfl, ?_, .ref d, rfl, .str ys[i], rfl, d, v, rfl, g, v, t, rfl, ht, ?_, ft, fun H2 s5 => ?_⟩
      · exact lt_line (by rw [len_colon]; omega)
      · exact Nat.lt_of_le_of_lt sm.2 (by decide)
      · refine ⟨_, _, rfl, rfl, lt_line (by omega), _, s5 _ _ hD1, lt_line' ?_, ?_, (s4.trans s5).mut hD⟩
        · rw [List.length_map, Lib.lines, List.length_map, Lib.pick, List.length_map, List.length_take]
          omega
        · rw [upd_same, Lib.pick_next io et, Lib.lines, Lib.lines, List.map_append, List.map_append]
          have le := line_eq (ys[i], t)
          dsimp only at le
          rw [le]
          rfl
    · obtain ⟨hD1, s4⟩ := hP
      rw [List.length_map, List.take_length] at hD1
      exact q _ D H' lp (by rw [en]; exact so) (s3.trans s4) nD hD1
theorem ok__law_made (T : Txt K mg C_Type C_Library) (i_Library___init__ : MakC P w K mg base C_Library 3 ["self", "parts"] (sp_Library___init__ K C_Type C_Library)) (c__law_made_kind : CalN P w K mg base "_law_made_kind" 12 ["_law_kind_here"] (sp__law_made_kind K C_Type)) {f : Addr} {fd : FuncData} (F : Fun K "_law_made" "_law_made" s__law_made f fd) : FnOk P w K mg base CX0 13 f fd ["_law_library_here"] (sp__law_made K C_Type C_Library) := by
  have nd := sc__law_made.nd
  refine F.ok sc__law_made (fun vs H Q E h => ?_) (fun cdv A outer s H vs Q E hr h => ?_)
  · obtain ⟨d, kvs, L, rfl, _⟩ := h
    rfl
  · obtain ⟨d, kvs, L, rfl, hd, hp, dr, q⟩ := h
    refine ⟨_, (pss_one (ps_ret (pe_makeC i_Library___init__ (hr.mono (by first | decide | omega)) rfl T.c_Library (pa_cons (pe_callTy (call_dictP rfl) (by rfl) T.b_dict (by decide +kernel) (pa_cons (pe_lock (pe_lcD (own := [("_law_name", 1)]) (by rfl) nd (pi_keys (pv 0)) (blkOk_by (own := [("_law_name", 1)]) (N := ["_law_library_here", "_law_name"]) (sc := (defScope s__law_made)) (by decide +kernel)) (fun _ _ _ _ _ => pg_name (i := 1) nd rfl (Or.inl rfl)) (fun _ _ _ _ _ => pts_nil) (fun _ _ _ _ _ => (pe_tup (pa_cons (pv 1) (pa_cons (pe_callN c__law_made_kind (hr.mono (by first | decide | omega)) rfl (pa_cons (pe_dget (by first | exact Nat.lt_of_le_of_lt (Nat.add_le_add_left (by decide : 1 ≤ 64) _) hr.units | exact Nat.lt_of_le_of_lt (Nat.add_le_add_left (by decide : 4 ≤ 64) _) hr.units | exact Nat.lt_of_le_of_lt (Nat.add_le_add_left (by decide : 7 ≤ 64) _) hr.units) (pv 0) (pv 1) (fun _ _ => rfl)) pa_nil)) pa_nil)))))) pa_nil)) pa_nil)))), ?_⟩
    have five := dr.fine.few
    have ln := hp.len
    have nodup := dr.fine.nodup
    refine ⟨d, _, hd, trivial, fun od => ?_⟩
    have hf : Held H (upd H d (.frz od (.dK kvs))) := held_dk hd
    refine ⟨.ref d, rfl, d, od, rfl, .inl ⟨kvs, upd_same, fun D hD => ?_⟩⟩
    have nDd : D ≠ d := fun z => by
      rw [z, upd_same] at hD
      cases hD
    refine lc_keys (fun i H' => ∃ (ps : List Addr) (ks : List (Key × V)), H' D = some (.lst (ps.map V.ref)) ∧ Paired (fun p kv => H' p = some (.tup [kV kv.1, kv.2])) ps ks ∧ IsP C_Type H' (L.take i) ks ∧ Same (upd H d (.frz od (.dK kvs))) H') ?_ (fun i H' _ hP => ?_) (fun i k v H' hk hP => ?_) (fun H' hP => ?_)
    · exact ⟨[], [], upd_same, .nil, by rw [List.take_zero]; rfl, (Same.refl _).mut hD⟩
    · obtain ⟨_, _, _, _, _, s4⟩ := hP
      exact s4 _ _ upd_same
    · obtain ⟨ps, ks, hD1, pr, hp1, s4⟩ := hP
      obtain ⟨e, he, rfl, ht⟩ := hp.at_ hk
      have io := lt_of_get hk
      have em := List.mem_of_getElem? he
      have kl := hp1.len
      rw [List.length_take] at kl
      have pl := Paired.length pr
      have sm := dr.small _ em
      have g : DGet H' d (.str e.1) (some v) := .inl ⟨kvs, Sum.inr e.1, .inr ⟨od, s4 _ _ upd_same⟩, rfl, (val_at (names_keys nodup hp.keys) hk).symm⟩
      refine ⟨rfl, tyes ?_⟩
      refine ⟨.str e.1, rfl, .ref d, rfl, .str e.1, rfl, d, v, rfl, g, v, e.2, rfl, IsK.held (hf.trans s4.held) _ _ ht, Nat.lt_of_le_of_lt sm.2 (by decide), dr.fine.fits _ em, fun x H2 s5 hx => ?_⟩
      refine ⟨by show 2 ≤ sizeLine; decide, fun p1 h1 => ?_⟩
      have s6 := s5.new (o := .tup [V.str e.1, .ref x]) h1
      refine ⟨_, s6 _ _ hD1, lt_line' ?_, ps ++ [p1], ks ++ [(Sum.inr e.1, .ref x)], ?_, ?_, ?_, (s4.trans s6).mut hD⟩
      · rw [List.length_map]
        omega
      · rw [upd_same, List.map_append]
        rfl
      · have mv : ∀ (b : Addr) (xs : List V), H' b = some (.tup xs) → upd (upd H2 p1 (.tup [V.str e.1, .ref x])) D (.lst (ps.map V.ref ++ [.ref p1])) b = some (.tup xs) := fun b xs hb => by
          rw [upd_ne (ne_of hb hD1 (fun z => nomatch z))]
          exact s6 _ _ hb
        refine Paired.snoc (Paired.mono (fun a b hab => mv _ _ hab) pr) ?_
        show upd (upd H2 p1 (.tup [V.str e.1, .ref x])) D _ p1 = some (.tup [V.str e.1, .ref x])
        rw [upd_ne (ne_of_none (s5 _ _ hD1) h1).symm]
        exact upd_same
      · rw [take_next he]
        have hh : Held _ (upd (upd H2 p1 (.tup [V.str e.1, .ref x])) D (.lst (ps.map V.ref ++ [.ref p1]))) := held_lst (s6 _ _ hD1)
        exact ((hp1.same s6).held hh).app (IsT.held hh _ _ (IsT.same ((Same.refl H2).new h1) _ _ hx))
    · obtain ⟨ps, ks, hD1, pr, hp1, s4⟩ := hP
      rw [ln, List.take_length] at hp1
      have s5 := same_unlock hd s4
      have kd : H' d = some (.frz od (.dK kvs)) := s4 _ _ upd_same
      refine ⟨kd, ?_⟩
      have pr2 : Paired (fun p kv => SqT K (upd H' d (.dK kvs)) p [kV kv.1, kv.2]) ps ks := Paired.mono (fun (a : Addr) (b : Key × V) (hab : H' a = some (.tup [kV b.1, b.2])) => SqT.of (by
        rw [upd_ne (ne_of hab kd (fun z => nomatch z))]
        exact hab)) pr
      refine ⟨D, ps, ks, rfl, SqL.of ((upd_ne nDd).trans hD1), pr2, fun p1 h1 => ?_⟩
      rw [mergeK_app ks [] (by rw [List.nil_append]; exact names_keys nodup hp1.keys), List.nil_append]
      have s6 := (Same.refl (upd H' d (.dK kvs))).new (o := .dK ks) h1
      have hp2 : IsP C_Type (upd H' d (.dK kvs)) L ks := hp1.heldT (heldT_at kd id)
      exact make_lib upd_same (hp2.same s6) dr.fine fun L' y H3 pm so s7 hl => q L' y H3 pm so ((s5.trans s6).trans s7) hl
theorem ok__law_library_atoms (T : Txt K mg C_Type C_Library) (c__law_atoms_of : CalN P w K mg base "_law_atoms_of" 7 ["_law_kind_here"] (sp__law_atoms_of K)) {f : Addr} {fd : FuncData} (F : Fun K "_law_library_atoms" "_law_library_atoms" s__law_library_atoms f fd) : FnOk P w K mg base CX0 8 f fd ["_law_library_here"] (sp__law_library_atoms K) := by
  have nd := sc__law_library_atoms.nd
  refine F.ok sc__law_library_atoms (fun vs H Q E h => ?_) (fun cdv A outer s H vs Q E hr h => ?_)
  · obtain ⟨d, kvs, L, rfl, _⟩ := h
    rfl
  · obtain ⟨d, kvs, L, rfl, hd, hp, dr, q⟩ := h
    refine ⟨_, (pss_cons (ps_set (i := 1) nd rfl (.inl rfl) (pe_lst pa_nil))
      (pss_cons (ps_lock (ps_for PassesOwn.never rfl (pi_keys (pv 0)) (pg_name (i := 2) nd rfl (.inl rfl)) (pss_one (ps_set (i := 1) nd rfl (.inl rfl) (pe_op op_cat (pv 1) (pe_callN c__law_atoms_of (hr.mono (by first | decide | omega)) rfl (pa_cons (pe_dget (by first | exact Nat.lt_of_le_of_lt (Nat.add_le_add_left (by decide : 1 ≤ 64) _) hr.units | exact Nat.lt_of_le_of_lt (Nat.add_le_add_left (by decide : 4 ≤ 64) _) hr.units | exact Nat.lt_of_le_of_lt (Nat.add_le_add_left (by decide : 7 ≤ 64) _) hr.units) (pv 0) (pv 2) (fun _ _ => rfl)) pa_nil)))))))
      (pss_one (ps_ret (pe_callB (cr_sortS rfl) (by rfl) T.b_sorted (by decide +kernel) (pa_cons (pe_callTy (cr_setE rfl) (by rfl) T.b_set (by decide +kernel) (pa_cons (pv 1) pa_nil)) pa_nil)))))), ?_⟩
    have five := dr.five
    have ln := hp.len
    have nodup := dr.fine.nodup
    refine ⟨Nat.zero_le _, fun l0 hl0 => ?_⟩
    have s1 : Same H (upd H l0 (.lst [])) := (Same.refl H).new hl0
    have ht1 := hp.held s1.held
    have hd1 := s1 _ _ hd
    refine asg_go2 ?_
    dsimp only
    generalize hH1 : upd H l0 (.lst []) = H1 at s1 ht1 hd1
    have hl1 : H1 l0 = some (.lst []) := by rw [← hH1, upd_same]
    clear hH1 hl0
    refine ⟨d, _, hd1, trivial, fun od => ?_⟩
    have hf : Held H1 (upd H1 d (.frz od (.dK kvs))) := held_dk hd1
    refine ⟨.ref d, rfl, d, od, rfl, .inl ⟨kvs, upd_same, ?_⟩⟩
    refine for_keys (fun i σ' H' => ∃ l acc s2, σ' = [some (.ref d), some (.ref l), s2] ∧ H' l = some (.lst ((acc : List Str).map V.str)) ∧ (∀ a, a ∈ acc ↔ ∃ e ∈ L.take i, a ∈ e.2.places) ∧ acc.length ≤ 5 * i ∧ Same (upd H1 d (.frz od (.dK kvs))) H') ?_ (fun i σ' H' _ hP => ?_) (fun i k v σ' H' hk hP => ?_) (fun σ' H' hP => ?_)
    · refine ⟨l0, [], none, rfl, (upd_ne (ne_of hl1 hd1 (fun z => nomatch z))).trans hl1, fun a => ⟨fun h => absurd h List.not_mem_nil, fun ⟨e, he, _⟩ => ?_⟩, Nat.zero_le _, Same.refl _⟩
      rw [List.take_zero] at he
      exact absurd he List.not_mem_nil
    · obtain ⟨_, _, _, _, _, _, _, s4⟩ := hP
      exact s4 _ _ upd_same
    · obtain ⟨l, acc, s2, rfl, hl, mem, la, s4⟩ := hP
      obtain ⟨e, he, rfl, ht⟩ := ht1.at_ hk
      have io := lt_of_get hk
      have em := List.mem_of_getElem? he
      have sm := dr.small _ em
      have g : DGet H' d (.str e.1) (some v) := .inl ⟨kvs, Sum.inr e.1, .inr ⟨od, s4 _ _ upd_same⟩, rfl, (val_at (names_keys nodup hp.keys) hk).symm⟩
      refine ⟨.ref l, rfl, .ref d, rfl, .str e.1, rfl, d, v, rfl, g, v, e.2, rfl, IsK.held (hf.trans s4.held) _ _ ht, Nat.lt_of_le_of_lt sm.2 (by decide), by omega, fun p2 H2 s5 np hp2 => ?_⟩
      refine ⟨l, p2, _, _, rfl, rfl, s5 _ _ hl, hp2, lt_line (by rw [List.length_map, List.length_map]; omega), fun p3 hp3 => ?_⟩
      refine ⟨p3, acc ++ e.2.places, some (.str e.1), rfl, ?_, fun a => ?_, by rw [List.length_append]; omega, (s4.trans s5).new hp3⟩
      · rw [upd_same, List.map_append]
      · rw [take_next he, List.mem_append, mem]
        constructor
        · rintro (⟨e', h1, h2⟩ | h)
          · exact ⟨e', List.mem_append_left _ h1, h2⟩
          · exact ⟨e, List.mem_append_right _ (List.mem_singleton.mpr rfl), h⟩
        · rintro ⟨e', h1, h2⟩
          rcases List.mem_append.mp h1 with h1 | h1
          · exact .inl ⟨e', h1, h2⟩
          · rw [List.mem_singleton.mp h1] at h2
            exact .inr h2
    · obtain ⟨l, acc, s2, rfl, hl, mem, la, s4⟩ := hP
      rw [ln, List.take_length] at mem
      rw [ln] at la
      have kd : H' d = some (.frz od (.dK kvs)) := s4 _ _ upd_same
      refine ⟨kd, ?_⟩
      have s5 := s1.trans (same_unlock hd1 s4)
      have hl5 : upd H' d (.dK kvs) l = some (.lst (acc.map V.str)) := (upd_ne (ne_of hl kd (fun z => nomatch z))).trans hl
      generalize upd H' d (.dK kvs) = H5 at s5 hl5
      refine ⟨.ref l, rfl, l, acc, rfl, .inr (SqL.of hl5), by omega, fun a M ha hM memM => ?_⟩
      refine ⟨a, M, rfl, upd_same, by omega, fun ys p0 pm nd so hp0 => ?_⟩
      exact q p0 ys _ ((s5.new ha).new hp0) ((s5.new ha).free hp0) upd_same nd so (fun a => (pm.mem_iff.trans (memM a)).trans (mem a)) (by rw [pm.length_eq]; omega)
end


end My
namespace My
open PySem PySem.Spec PyProof.Rows L2 TL
set_option pp.maxSteps 400
set_option pp.deepTerms false
/-! ### the law's known libraries -/
theorem IsK.mk2 {H : Hp} {i : List Ty} {a : Str} {p q : Addr} {rs : List V} (h1 : H p = some (.tup [.ref q, .str a])) (h2 : H q = some (.tup rs)) (h3 : IsKs H i rs) : IsK H (.mk i a) (.ref p) := by
  rw [IsK]
  exact ⟨p, q, rs, rfl, h1, h2, h3⟩
theorem kindNew {H : Hp} {ts : List Ty} {rs : List V} {p q : Addr} {a : Str} (hk : IsKs H ts rs) (hq : H q = none) (hp : upd H q (.tup rs) p = none) :
    IsK (upd (upd H q (.tup rs)) p (.tup [.ref q, .str a])) (.mk ts a) (.ref p) ∧ Same H (upd (upd H q (.tup rs)) p (.tup [.ref q, .str a])) := by
  have s : Same H (upd (upd H q (.tup rs)) p (.tup [.ref q, .str a])) := ((Same.refl H).new hq).new hp
  refine ⟨IsK.mk2 upd_same ?_ (IsKs.held s.held _ _ hk), s⟩
  rw [upd_ne (ne_of_none upd_same hp)]
  exact upd_same
theorem dispNew {H H2 : Hp} {p : Addr} {kvs : List (Key × V)} {L : Lib} (hp : H p = none) (s : Same (upd H p (.dK [])) H2) (hk : IsQ H2 L kvs) (nd : L.names.Nodup) :
    upd H2 p (.dK (mergeK [] kvs)) p = some (.dK kvs) ∧ IsQ (upd H2 p (.dK (mergeK [] kvs))) L kvs ∧ Same H (upd H2 p (.dK (mergeK [] kvs))) := by
  have e : mergeK [] kvs = kvs := by rw [mergeK_app kvs [] (by rw [List.nil_append]; exact names_keys nd hk.keys), List.nil_append]
  refine ⟨by rw [upd_same, e], hk.held (held_dk (s _ _ upd_same)), fun b o hb => ?_⟩
  have ne : b ≠ p := ne_of_none hb hp
  rw [upd_ne ne]
  exact s _ _ (by rw [upd_ne ne]; exact hb)
def tlA : Ty := .mk [] "a"
def tlB : Ty := .mk [] "b"
def tlCc : Ty := .mk [] "c"
def tlN : Ty := .mk [] "n"
def known : List Lib := [[("z", tlN), ("s", .mk [tlN] "n")], [("f", .mk [tlA] "b"), ("g", .mk [tlB] "c")], [("k", .mk [.mk [tlA] "b"] "c"), ("x", tlB)],
  [("k", .mk [.mk [tlA] "b"] "a"), ("g", .mk [tlA] "b"), ("y", tlA)], [("p", .mk [tlA, tlB] "c"), ("y", tlA), ("w", tlB), ("h", .mk [tlCc] "a")]]
def GoodD (H : Hp) (ds : List V) : Prop := ∀ x ∈ ds, ∃ l kvs L, x = .ref l ∧ H l = some (.dK kvs) ∧ IsQ H L kvs ∧ L ∈ known
theorem GoodD.heldD {H H' : Hp} {ds : List V} (s : HeldD H H') (h : GoodD H ds) : GoodD H' ds := fun x hx => by
  obtain ⟨l, kvs, L, e, h1, h2, h3⟩ := h x hx
  exact ⟨l, kvs, L, e, s _ _ h1 trivial, h2.held s.held, h3⟩
theorem GoodD.add {H : Hp} {ds : List V} {l : Addr} {kvs : List (Key × V)} {L : Lib} (h : GoodD H ds) (h1 : H l = some (.dK kvs)) (h2 : IsQ H L kvs) (h3 : L ∈ known) : GoodD H (ds ++ [.ref l]) := fun x hx => by
  rcases List.mem_append.mp hx with hx | hx
  · exact h x hx
  · exact ⟨l, kvs, L, List.mem_singleton.mp hx, h1, h2, h3⟩
theorem cut_exp {t : TE} {u : TS} {D : Ends} {σ : L2.St} {H : Hp} (PV : Hp → Prop) (h : ∀ Q : VK, (∀ v H', PV H' → Q v H') → t σ H Q) (k : ∀ H', PV H' → u D σ H') : tSeq (tDrop t) u D σ H := h _ (fun _ H' p => k H' p)
def fin (L : Lib) : Lib := if ("k" : Str) ∈ (L.less "x").names ∧ ("g" : Str) ∉ (L.less "x").names then L.less "x" ++ [(("w" : Str), tlB)] else L.less "x"
theorem known_ok : ∀ L ∈ known, drawnB (fin L) = true ∧ L.names.Nodup ∧ (("k" : Str) ∈ (L.less "x").names → ("g" : Str) ∉ (L.less "x").names → ("w" : Str) ∉ (L.less "x").names) := by decide +kernel
theorem less_out {L : Lib} {n : Str} (h : n ∉ L.names) : L.less n = L := List.filter_eq_self.mpr fun e he => decide_eq_true fun z => h (z ▸ List.mem_map.mpr ⟨e, he, rfl⟩)
def sp__law_known_library (_ : PySem.W.Frag) : Sp := fun vs H Q _ => ∃ d, vs = [.ref d] ∧ IsDice H d ∧ ∀ l kvs (L : Lib) H', L.Drawn → H' l = some (.dK kvs) → IsQ H' L kvs → Ext d H H' → IsDice H' d → Q (.ref l) H'
section
variable {P : Program} {w : World} {K : PySem.W.Frag} {mg : Str → Option Value} {base : Heap} {C_Type C_Library : Addr}
theorem ok__law_known_library (T : Txt K mg C_Type C_Library) (c__law_pick : CalN P w K mg base "_law_pick" 2 ["_law_dice_here", "_law_items"] (sp__law_pick K)) {f : Addr} {fd : FuncData} (F : Fun K "_law_known_library" "_law_known_library" s__law_known_library f fd) : FnOk P w K mg base CX0 3 f fd ["_law_dice_here"] (sp__law_known_library K) := by
  have nd := sc__law_known_library.nd
  refine F.ok sc__law_known_library (fun vs H Q E h => ?_) (fun cdv A outer s H vs Q E hr h => ?_)
  · obtain ⟨d, rfl, _⟩ := h
    rfl
  · obtain ⟨d, rfl, di, q⟩ := h
    refine ⟨_, (pss_cons (ps_asg (pe_tup (pa_cons (pe_tup (pa_cons (pe_tup pa_nil) (pa_cons pe_str pa_nil))) (pa_cons (pe_tup (pa_cons (pe_tup pa_nil) (pa_cons pe_str pa_nil))) (pa_cons (pe_tup (pa_cons (pe_tup pa_nil) (pa_cons pe_str pa_nil))) (pa_cons (pe_tup (pa_cons (pe_tup pa_nil) (pa_cons pe_str pa_nil))) pa_nil))))) (pg_tup (by rfl) (pgs_cons (pg_name (i := 1) nd rfl (.inl rfl)) (pgs_cons (pg_name (i := 2) nd rfl (.inl rfl)) (pgs_cons (pg_name (i := 3) nd rfl (.inl rfl)) (pgs_cons (pg_name (i := 4) nd rfl (.inl rfl)) pgs_nil))))))
      (pss_cons (ps_set (i := 5) nd rfl (.inl rfl) (pe_lst (pa_cons (pe_disp (pps_cons pe_str (pv 4) (pps_cons pe_str (pe_tup (pa_cons (pe_tup (pa_cons (pv 4) pa_nil)) (pa_cons pe_str pa_nil))) pps_nil)) (by rfl) (by rfl) (fun z => by cases z) (by decide)) (pa_cons (pe_disp (pps_cons pe_str (pe_tup (pa_cons (pe_tup (pa_cons (pv 1) pa_nil)) (pa_cons pe_str pa_nil))) (pps_cons pe_str (pe_tup (pa_cons (pe_tup (pa_cons (pv 2) pa_nil)) (pa_cons pe_str pa_nil))) pps_nil)) (by rfl) (by rfl) (fun z => by cases z) (by decide)) (pa_cons (pe_disp (pps_cons pe_str (pe_tup (pa_cons (pe_tup (pa_cons (pe_tup (pa_cons (pe_tup (pa_cons (pv 1) pa_nil)) (pa_cons pe_str pa_nil))) pa_nil)) (pa_cons pe_str pa_nil))) (pps_cons pe_str (pv 2) pps_nil)) (by rfl) (by rfl) (fun z => by cases z) (by decide)) pa_nil)))))
      (pss_cons (ps_expr (pe_bm PySem.F.plainAttrs_list PySem.F.slot_list_append PySem.F.type_list_append mt_append (pv 5) (pa_cons (pe_disp (pps_cons pe_str (pe_tup (pa_cons (pe_tup (pa_cons (pe_tup (pa_cons (pe_tup (pa_cons (pv 1) pa_nil)) (pa_cons pe_str pa_nil))) pa_nil)) (pa_cons pe_str pa_nil))) (pps_cons pe_str (pe_tup (pa_cons (pe_tup (pa_cons (pv 1) pa_nil)) (pa_cons pe_str pa_nil))) (pps_cons pe_str (pv 1) pps_nil))) (by rfl) (by rfl) (fun z => by cases z) (by decide)) pa_nil)))
      (pss_cons (ps_expr (pe_bm PySem.F.plainAttrs_list PySem.F.slot_list_append PySem.F.type_list_append mt_append (pv 5) (pa_cons (pe_disp (pps_cons pe_str (pe_tup (pa_cons (pe_tup (pa_cons (pv 1) (pa_cons (pv 2) pa_nil))) (pa_cons pe_str pa_nil))) (pps_cons pe_str (pv 1) (pps_cons pe_str (pv 2) (pps_cons pe_str (pe_tup (pa_cons (pe_tup (pa_cons (pv 3) pa_nil)) (pa_cons pe_str pa_nil))) pps_nil)))) (by rfl) (by rfl) (fun z => by cases z) (by decide)) pa_nil)))
      (pss_cons (ps_set (i := 6) nd rfl (.inl rfl) (pe_callTy (call_dictP rfl) (by rfl) T.b_dict (by decide +kernel) (pa_cons (LiI.pe_listItems rfl (pe_callN c__law_pick (hr.mono (by first | decide | omega)) rfl (pa_cons (pv 0) (pa_cons (pv 5) pa_nil))) (by rfl) T.b_list (by decide +kernel)) pa_nil)))
      (pss_cons (ps_expr (pe_dpop2 (pv 6) pe_str pe_non ⟨rfl, rfl, rfl, rfl⟩))
      (pss_cons (ps_if (PW.pt (pw_and (pt_cmp (pc_din (by first | exact Nat.lt_of_le_of_lt (Nat.add_le_add_left (by decide : 1 ≤ 64) _) hr.units | exact Nat.lt_of_le_of_lt (Nat.add_le_add_left (by decide : 4 ≤ 64) _) hr.units | exact Nat.lt_of_le_of_lt (Nat.add_le_add_left (by decide : 7 ≤ 64) _) hr.units) pe_str (pv 6)) (by rfl)) (pw_and1 (pt_cmp (pc_dnotin (by first | exact Nat.lt_of_le_of_lt (Nat.add_le_add_left (by decide : 1 ≤ 64) _) hr.units | exact Nat.lt_of_le_of_lt (Nat.add_le_add_left (by decide : 4 ≤ 64) _) hr.units | exact Nat.lt_of_le_of_lt (Nat.add_le_add_left (by decide : 7 ≤ 64) _) hr.units) pe_str (pv 6)) (by rfl))))) (pss_one (ps_dput (by first | exact Nat.lt_of_le_of_lt (Nat.add_le_add_left (by decide : 1 ≤ 64) _) hr.units | exact Nat.lt_of_le_of_lt (Nat.add_le_add_left (by decide : 4 ≤ 64) _) hr.units | exact Nat.lt_of_le_of_lt (Nat.add_le_add_left (by decide : 7 ≤ 64) _) hr.units) (pv 6) pe_str (pv 2) (by rfl))) pss_nil)
      (pss_one (ps_ret (pv 6)))))))))), ?_⟩
    have t2 : 2 ≤ sizeLine := by decide
    have t1 : 1 ≤ sizeLine := by decide
    have t3 : 3 ≤ sizeLine := by decide
    have t4 : 4 ≤ sizeLine := by decide
    refine ⟨Nat.zero_le _, fun q1 hq1 => ⟨t2, fun p1 hp1 => ?_⟩⟩
    obtain ⟨k1, s1⟩ := kindNew (a := "a") IsKs.nil hq1 hp1
    generalize upd (upd H q1 (.tup [])) p1 (.tup [.ref q1, .str "a"]) = H1 at k1 s1
    refine ⟨Nat.zero_le _, fun q2 hq2 => ⟨t2, fun p2 hp2 => ?_⟩⟩
    obtain ⟨k2, s2⟩ := kindNew (a := "b") IsKs.nil hq2 hp2
    generalize upd (upd H1 q2 (.tup [])) p2 (.tup [.ref q2, .str "b"]) = H2 at k2 s2
    refine ⟨Nat.zero_le _, fun q3 hq3 => ⟨t2, fun p3 hp3 => ?_⟩⟩
    obtain ⟨k3, s3⟩ := kindNew (a := "c") IsKs.nil hq3 hp3
    generalize upd (upd H2 q3 (.tup [])) p3 (.tup [.ref q3, .str "c"]) = H3 at k3 s3
    refine ⟨Nat.zero_le _, fun q4 hq4 => ⟨t2, fun p4 hp4 => ?_⟩⟩
    obtain ⟨k4, s4⟩ := kindNew (a := "n") IsKs.nil hq4 hp4
    generalize upd (upd H3 q4 (.tup [])) p4 (.tup [.ref q4, .str "n"]) = H4 at k4 s4
    refine ⟨t4, fun p hp => ⟨p, _, rfl, SqT.of upd_same, rfl, _, _, rfl, _, _, rfl, _, _, rfl, _, _, rfl, rfl, ?_⟩⟩
    have s5 := (Same.refl H4).new (o := .tup [.ref p1, .ref p2, .ref p3, .ref p4]) hp
    generalize upd H4 p (.tup [.ref p1, .ref p2, .ref p3, .ref p4]) = H5 at s5
    have ka : IsK H5 tlA (.ref p1) := IsK.held (((s2.trans s3).trans s4).trans s5).held _ _ k1
    have kb : IsK H5 tlB (.ref p2) := IsK.held ((s3.trans s4).trans s5).held _ _ k2
    have kc : IsK H5 tlCc (.ref p3) := IsK.held (s4.trans s5).held _ _ k3
    have kn : IsK H5 tlN (.ref p4) := IsK.held s5.held _ _ k4
    have sH := (((s1.trans s2).trans s3).trans s4).trans s5
    clear k1 k2 k3 k4 s1 s2 s3 s4 s5 hp hq1 hq2 hq3 hq4 hp1 hp2 hp3 hp4
    dsimp only
    refine cut_set (fun v H' => ∃ D ds, v = .ref D ∧ H5 D = none ∧ H' D = some (.lst ds) ∧ ds.length = 3 ∧ GoodD H' ds ∧ Same H5 H') (fun Q' q' => ?_) ?_
    · refine fun d1 hd1 => ?_
      have b1 := (Same.refl H5).new (o := .dK []) hd1
      refine ⟨.ref p4, rfl, .ref p4, rfl, t1, fun q5 hq5 => ⟨t2, fun p5 hp5 => ?_⟩⟩
      obtain ⟨k5, s5⟩ := kindNew (a := "n") (IsKs.cons (IsK.held b1.held _ _ kn) .nil) hq5 hp5
      refine ⟨s5 _ _ upd_same, [(Sum.inr "z", .ref p4), (Sum.inr "s", .ref p5)], rfl, (by show 2 ≤ 15; decide), ?_⟩
      obtain ⟨e1, i1, c1⟩ := dispNew (L := [("z", tlN), ("s", .mk [tlN] "n")]) hd1 s5 ⟨_, _, rfl, IsK.held (b1.trans s5).held _ _ kn, _, _, rfl, k5, rfl⟩ (by decide +kernel)
      generalize upd (upd (upd (upd H5 d1 (.dK [])) q5 (.tup [.ref p4])) p5 (.tup [.ref q5, .str "n"])) d1 _ = H6 at e1 i1 c1
      clear k5 s5 b1 hq5 hp5
      have ka6 := IsK.held c1.held _ _ ka
      have kb6 := IsK.held c1.held _ _ kb
      refine fun d2 hd2 => ?_
      have b2 := (Same.refl H6).new (o := .dK []) hd2
      refine ⟨.ref p1, rfl, t1, fun q6 hq6 => ⟨t2, fun p6 hp6 => ?_⟩⟩
      obtain ⟨k6, s6⟩ := kindNew (a := "b") (IsKs.cons (IsK.held b2.held _ _ ka6) .nil) hq6 hp6
      refine ⟨.ref p2, rfl, t1, fun q7 hq7 => ⟨t2, fun p7 hp7 => ?_⟩⟩
      obtain ⟨k7, s7⟩ := kindNew (a := "c") (IsKs.cons (IsK.held (b2.trans s6).held _ _ kb6) .nil) hq7 hp7
      refine ⟨(s6.trans s7) _ _ upd_same, [(Sum.inr "f", .ref p6), (Sum.inr "g", .ref p7)], rfl, (by show 2 ≤ 15; decide), ?_⟩
      obtain ⟨e2, i2, c2⟩ := dispNew (L := [("f", .mk [tlA] "b"), ("g", .mk [tlB] "c")]) hd2 (s6.trans s7) ⟨_, _, rfl, IsK.held s7.held _ _ k6, _, _, rfl, k7, rfl⟩ (by decide +kernel)
      generalize upd _ d2 _ = H7 at e2 i2 c2
      clear k6 s6 k7 s7 b2 hq6 hp6 hq7 hp7
      have ka7 := IsK.held c2.held _ _ ka6
      have kb7 := IsK.held c2.held _ _ kb6
      refine fun d3 hd3 => ?_
      have b3 := (Same.refl H7).new (o := .dK []) hd3
      refine ⟨.ref p1, rfl, t1, fun q8 hq8 => ⟨t2, fun p8 hp8 => ?_⟩⟩
      obtain ⟨k8, s8⟩ := kindNew (a := "b") (IsKs.cons (IsK.held b3.held _ _ ka7) .nil) hq8 hp8
      refine ⟨t1, fun q9 hq9 => ⟨t2, fun p9 hp9 => ?_⟩⟩
      obtain ⟨k9, s9⟩ := kindNew (a := "c") (IsKs.cons k8 .nil) hq9 hp9
      have s89 := s8.trans s9
      refine ⟨.ref p2, rfl, s89 _ _ upd_same, [(Sum.inr "k", .ref p9), (Sum.inr "x", .ref p2)], rfl, (by show 2 ≤ 15; decide), ?_⟩
      obtain ⟨e3, i3, c3⟩ := dispNew (L := [("k", .mk [.mk [tlA] "b"] "c"), ("x", tlB)]) hd3 s89 ⟨_, _, rfl, k9, _, _, rfl, IsK.held (b3.trans s89).held _ _ kb7, rfl⟩ (by decide +kernel)
      generalize upd _ d3 _ = H8 at e3 i3 c3
      clear k8 s8 k9 s9 s89 b3 hq8 hp8 hq9 hp9
      refine ⟨t3, fun D hD => ?_⟩
      have cD := (Same.refl H8).new (o := .lst [.ref d1, .ref d2, .ref d3]) hD
      have c13 := ((c1.trans c2).trans c3)
      refine q' _ _ ⟨D, _, rfl, c13.free hD, upd_same, rfl, ?_, c13.trans cD⟩
      refine GoodD.heldD (H := H8) cD.heldD fun x hx => ?_
      rcases List.mem_cons.mp hx with rfl | hx
      · exact ⟨d1, _, _, rfl, (c2.trans c3) _ _ e1, i1.held (c2.trans c3).held, by rw [known]; exact List.mem_cons_self ..⟩
      rcases List.mem_cons.mp hx with rfl | hx
      · exact ⟨d2, _, _, rfl, c3 _ _ e2, i2.held c3.held, by rw [known]; exact List.mem_cons_of_mem _ (List.mem_cons_self ..)⟩
      · rw [List.mem_singleton.mp hx]
        exact ⟨d3, _, _, rfl, e3, i3, by rw [known]; exact List.mem_cons_of_mem _ (List.mem_cons_of_mem _ (List.mem_cons_self ..))⟩
    rintro v H6 ⟨D, ds, rfl, nD, hD, l3, good, s6⟩
    have ka6 := IsK.held s6.held _ _ ka
    have kb6 := IsK.held s6.held _ _ kb
    have kc6 := IsK.held s6.held _ _ kc
    -- the fourth
    refine ⟨.ref D, rfl, .inl ⟨rfl, _, SqL.of hD⟩, fun d4 hd4 => ?_⟩
    have b4 := (Same.refl H6).new (o := .dK []) hd4
    refine ⟨.ref p1, rfl, t1, fun q8 hq8 => ⟨t2, fun p8 hp8 => ?_⟩⟩
    obtain ⟨k8, s8⟩ := kindNew (a := "b") (IsKs.cons (IsK.held b4.held _ _ ka6) .nil) hq8 hp8
    refine ⟨t1, fun q9 hq9 => ⟨t2, fun p9 hp9 => ?_⟩⟩
    obtain ⟨k9, s9⟩ := kindNew (a := "a") (IsKs.cons k8 .nil) hq9 hp9
    have s89 := s8.trans s9
    refine ⟨.ref p1, rfl, t1, fun q10 hq10 => ⟨t2, fun p10 hp10 => ?_⟩⟩
    obtain ⟨k10, s10⟩ := kindNew (a := "b") (IsKs.cons (IsK.held (b4.trans s89).held _ _ ka6) .nil) hq10 hp10
    have s810 := s89.trans s10
    refine ⟨.ref p1, rfl, s810 _ _ upd_same, [(Sum.inr "k", .ref p9), (Sum.inr "g", .ref p10), (Sum.inr "y", .ref p1)], rfl, (by show 3 ≤ 15; decide), ?_⟩
    obtain ⟨e4, i4, c4⟩ := dispNew (L := [("k", .mk [.mk [tlA] "b"] "a"), ("g", .mk [tlA] "b"), ("y", tlA)]) hd4 s810 ⟨_, _, rfl, IsK.held s10.held _ _ k9, _, _, rfl, k10, _, _, rfl, IsK.held (b4.trans s810).held _ _ ka6, rfl⟩ (by decide +kernel)
    generalize upd _ d4 _ = H7 at e4 i4 c4
    clear k8 s8 k9 s9 s89 k10 s10 s810 b4 hq8 hp8 hq9 hp9 hq10 hp10
    have hD7 := c4 _ _ hD
    have good7 := ((good.heldD c4.heldD).add e4 i4 (by rw [known]; exact List.mem_cons_of_mem _ (List.mem_cons_of_mem _ (List.mem_cons_of_mem _ (List.mem_cons_self ..))))).heldD (heldD_lst (o := .lst (ds ++ [.ref d4])) hD7)
    have s7 := (s6.trans c4).mut (o := .lst (ds ++ [.ref d4])) nD
    refine ⟨D, ds, .ref d4, rfl, rfl, hD7, lt_line' (by omega), ?_⟩
    have hD8 : upd H7 D (.lst (ds ++ [.ref d4])) D = _ := upd_same
    generalize upd H7 D (.lst (ds ++ [.ref d4])) = H8 at good7 s7 hD8
    clear e4 i4 c4 hD7 good hD s6 ka6 kb6 kc6 hd4
    have ka8 := IsK.held s7.held _ _ ka
    have kb8 := IsK.held s7.held _ _ kb
    have kc8 := IsK.held s7.held _ _ kc
    -- the fifth
    refine ⟨.ref D, rfl, .inl ⟨rfl, _, SqL.of hD8⟩, fun d5 hd5 => ?_⟩
    have b5 := (Same.refl H8).new (o := .dK []) hd5
    refine ⟨.ref p1, rfl, .ref p2, rfl, t2, fun q8 hq8 => ⟨t2, fun p8 hp8 => ?_⟩⟩
    obtain ⟨k8, s8⟩ := kindNew (a := "c") (IsKs.cons (IsK.held b5.held _ _ ka8) (IsKs.cons (IsK.held b5.held _ _ kb8) .nil)) hq8 hp8
    refine ⟨.ref p1, rfl, .ref p2, rfl, .ref p3, rfl, t1, fun q9 hq9 => ⟨t2, fun p9 hp9 => ?_⟩⟩
    obtain ⟨k9, s9⟩ := kindNew (a := "a") (IsKs.cons (IsK.held (b5.trans s8).held _ _ kc8) .nil) hq9 hp9
    have s89 := s8.trans s9
    refine ⟨s89 _ _ upd_same, [(Sum.inr "p", .ref p8), (Sum.inr "y", .ref p1), (Sum.inr "w", .ref p2), (Sum.inr "h", .ref p9)], rfl, (by show 4 ≤ 15; decide), ?_⟩
    obtain ⟨e5, i5, c5⟩ := dispNew (L := [("p", .mk [tlA, tlB] "c"), ("y", tlA), ("w", tlB), ("h", .mk [tlCc] "a")]) hd5 s89 ⟨_, _, rfl, IsK.held s9.held _ _ k8, _, _, rfl, IsK.held (b5.trans s89).held _ _ ka8, _, _, rfl, IsK.held (b5.trans s89).held _ _ kb8, _, _, rfl, k9, rfl⟩ (by decide +kernel)
    generalize upd _ d5 _ = H9 at e5 i5 c5
    clear k8 s8 k9 s9 s89 b5 hq8 hp8 hq9 hp9
    have hD9 := c5 _ _ hD8
    have good9 := ((good7.heldD c5.heldD).add e5 i5 (by rw [known]; exact List.mem_cons_of_mem _ (List.mem_cons_of_mem _ (List.mem_cons_of_mem _ (List.mem_cons_of_mem _ (List.mem_cons_self ..)))))).heldD (heldD_lst (o := .lst (ds ++ [.ref d4] ++ [.ref d5])) hD9)
    have s9 := sH.trans ((s7.trans c5).mut (o := .lst (ds ++ [.ref d4] ++ [.ref d5])) nD)
    refine ⟨D, ds ++ [.ref d4], .ref d5, rfl, rfl, hD9, lt_line' (by rw [List.length_append]; show _ + 1 < _; omega), ?_⟩
    have hDa : upd H9 D (.lst (ds ++ [.ref d4] ++ [.ref d5])) D = _ := upd_same
    have kba := IsK.held ((s7.trans c5).mut (o := .lst (ds ++ [.ref d4] ++ [.ref d5])) nD).held _ _ kb
    generalize upd H9 D (.lst (ds ++ [.ref d4] ++ [.ref d5])) = Ha at good9 s9 hDa kba
    clear e5 i5 c5 hD9 good7 hD8 s7 ka8 kb8 kc8 hd5
    have l5 : (ds ++ [V.ref d4] ++ [V.ref d5]).length = 5 := by rw [List.length_append, List.length_append, l3]; rfl
    generalize ds ++ [V.ref d4] ++ [.ref d5] = es at good9 hDa l5
    have dia := di.same s9
    have nDd : D ≠ d := di.ne (sH.free nD)
    refine nx_go ?_
    dsimp only
    refine ⟨.ref d, rfl, .ref D, rfl, d, D, es, rfl, dia, SqL.of hDa, nDd, (fun z => by rw [z] at l5; cases l5), by rw [l5]; decide, fun x Hb hx eb db => ?_⟩
    obtain ⟨l, kvs, L, rfl, hl, hq, kn⟩ := good9.heldD (eb.heldD dia) x hx
    obtain ⟨ok, nod, wout⟩ := known_ok L kn
    have kbb := IsK.held (eb.held dia) _ _ kba
    have eH := (Ext.same s9).trans eb
    clear good9 hDa hx kba dia
    refine ⟨l, kvs, rfl, hl, fun Hc p5 ts sc np5 nts p5t hp5 pr => ?_⟩
    have pr2 : Paired (fun p kv => SqT K Hc p [kV kv.1, kv.2]) ts kvs := Paired.mono (fun (a : Addr) (b : Key × V) (hab : Hc a = some (.tup [kV b.1, b.2])) => SqT.of hab) pr
    refine ⟨p5, ts, kvs, rfl, SqL.of hp5, pr2, fun p6 np6 => ?_⟩
    have sc2 : Same Hb Hc := sc
    have e6 : mergeK [] kvs = kvs := by rw [mergeK_app kvs [] (by rw [List.nil_append]; exact names_keys nod hq.keys), List.nil_append]
    rw [e6]
    have s6 := sc2.new (o := .dK kvs) np6
    have hq6 := hq.held s6.held
    have kb6 := IsK.held s6.held _ _ kbb
    have n6 := sc2.free np6
    have h6 : upd Hc p6 (.dK kvs) p6 = some (.dK kvs) := upd_same
    generalize upd Hc p6 (.dK kvs) = Hd at s6 hq6 kb6 h6
    have dd := db.same s6
    have ed := eH.trans (Ext.same s6)
    have p6d : p6 ≠ d := db.ne n6
    have nH : H p6 = none := Ext.none eH p6d n6
    clear pr pr2 hp5 nts p5t np5 np6 sc sc2 hq hl kbb eH e6
    refine asg_go2 ?_
    dsimp only
    refine cut_exp (fun He => ∃ kvs', He p6 = some (.dK kvs') ∧ IsQ He (L.less "x") kvs' ∧ IsK He tlB (.ref p2) ∧ IsDice He d ∧ Ext d H He) (fun Q' q' => ?_) ?_
    · refine ⟨.ref p6, rfl, p6, rfl, .inl ⟨kvs, .inl h6⟩, kvs, Sum.inr "x", h6, rfl, fun v ev => q' _ _ ?_, fun en => q' _ _ ?_⟩
      · have hh := held_dk (o := .dK (dropK kvs (Sum.inr "x"))) h6
        exact ⟨_, upd_same, hq6.drop.held hh, IsK.held hh _ _ kb6, dd.mut p6d, ed.mut nH⟩
      · have e : L.less "x" = L := less_out fun k => by
          have := hq6.isSome "x"
          rw [en, decide_eq_true k] at this
          cases this
        exact ⟨kvs, h6, (by rw [e]; exact hq6), kb6, dd, ed⟩
    rintro He ⟨kvs', h7, hq7, kb7, dd7, ed7⟩
    have fine_k := drawn_of ok
    unfold fin at fine_k
    by_cases ck : ("k" : Str) ∈ (L.less "x").names
    · refine ⟨.ref p6, rfl, p6, _, rfl, .k (k := Sum.inr "k") h7, true, congrArg V.bl ((hq7.isSome "k").trans (decide_eq_true ck)), iteT ?_⟩
      by_cases cg : ("g" : Str) ∈ (L.less "x").names
      · refine ⟨.ref p6, rfl, p6, _, rfl, .k (k := Sum.inr "g") h7, false, congrArg V.bl (by rw [hq7.isSome "g", decide_eq_true cg]; rfl), iteF ?_⟩
        refine nx_go ?_
        rw [if_neg (fun z => z.2 cg)] at fine_k
        exact ⟨.ref p6, rfl, q p6 kvs' _ He fine_k h7 hq7 ed7 dd7⟩
      · refine ⟨.ref p6, rfl, p6, _, rfl, .k (k := Sum.inr "g") h7, true, congrArg V.bl (by rw [hq7.isSome "g", decide_eq_false cg]; rfl), iteT ?_⟩
        rw [if_pos ⟨ck, cg⟩] at fine_k
        have wo := wout ck cg
        have five := fine_k.five
        rw [List.length_append] at five
        have ln := hq7.len
        refine ⟨.ref p2, rfl, .ref p6, rfl, p6, _, rfl, .k (k := Sum.inr "w") h7 (lt_line' (by have : [(("w" : Str), tlB)].length = 1 := rfl; omega)), ?_⟩
        have hh := held_dk (o := .dK (putK kvs' (Sum.inr "w") (.ref p2))) h7
        rw [putK_new _ (hq7.none_of wo)] at hh ⊢
        exact ⟨.ref p6, rfl, q p6 _ _ _ fine_k upd_same ((hq7.held hh).app (IsK.held hh _ _ kb7)) (ed7.mut nH) (dd7.mut p6d)⟩
    · refine ⟨.ref p6, rfl, p6, _, rfl, .k (k := Sum.inr "k") h7, false, congrArg V.bl ((hq7.isSome "k").trans (decide_eq_false ck)), iteF ?_⟩
      refine nx_go ?_
      rw [if_neg (fun z => ck z.1)] at fine_k
      exact ⟨.ref p6, rfl, q p6 kvs' _ He fine_k h7 hq7 ed7 dd7⟩
end


end My
namespace My
open PySem PySem.Spec PyProof.Rows L2 TL
set_option pp.maxSteps 400
set_option pp.deepTerms false
/-! ### the law's drawn libraries -/
theorem strs_of : ∀ {ys : List V}, (∀ y ∈ ys, ∃ n, y = V.str n) → ∃ ns : List Str, ys = ns.map V.str
  | [], _ => ⟨[], rfl⟩
  | y :: r, h => by
    obtain ⟨n, e⟩ := h y (List.mem_cons_self ..)
    obtain ⟨ns, e2⟩ := strs_of (ys := r) fun z hz => h z (List.mem_cons_of_mem _ hz)
    exact ⟨n :: ns, by rw [e, e2]; rfl⟩
def five : List Str := ["f", "g", "h", "k", "z"]
theorem five_ok : ∀ n ∈ five, wdB n = true ∧ n.length = 1 := by decide +kernel
theorem five_nd : (five.map V.str).Nodup := by
  refine List.pairwise_map.mpr (List.Pairwise.imp (fun a b => a (V.str.inj b)) (?_ : five.Nodup))
  decide +kernel
def AbcOk (A : List Str) : Prop := A ≠ [] ∧ A.length ≤ 3 ∧ ∀ a ∈ A, Wd a
theorem abc_ok : ∀ A ∈ [([("a" : Str), "b"] : List Str), ["a", "b", "c"], ["a", "b", "c"]], AbcOk A := by
  intro A hA
  have : ∀ A ∈ [([("a" : Str), "b"] : List Str), ["a", "b", "c"], ["a", "b", "c"]], A ≠ [] ∧ A.length ≤ 3 ∧ A.all wdB = true := by decide +kernel
  obtain ⟨h1, h2, h3⟩ := this A hA
  exact ⟨h1, h2, fun a ha => wdB_wd (List.all_eq_true.mp h3 a ha)⟩
theorem pick_low {x : V} (h : x ∈ [V.int 0, V.int 1, V.int 1, V.int 2]) : ∃ o : Nat, x = .int (o : Nat) ∧ o ≤ 2 := by
  rcases List.mem_cons.mp h with rfl | h
  · exact ⟨0, rfl, by decide⟩
  rcases List.mem_cons.mp h with rfl | h
  · exact ⟨1, rfl, by decide⟩
  rcases List.mem_cons.mp h with rfl | h
  · exact ⟨1, rfl, by decide⟩
  · exact ⟨2, List.mem_singleton.mp h, by decide⟩
def sp__law_library (_ : PySem.W.Frag) : Sp := fun vs H Q _ => ∃ d, vs = [.ref d] ∧ IsDice H d ∧ ∀ l kvs (L : Lib) H', L.Drawn → H' l = some (.dK kvs) → IsQ H' L kvs → Ext d H H' → IsDice H' d → Q (.ref l) H'
section
variable {P : Program} {w : World} {K : PySem.W.Frag} {mg : Str → Option Value} {base : Heap} {C_Type C_Library : Addr}
theorem ok__law_library (T : Txt K mg C_Type C_Library) (c__law_pick : CalN P w K mg base "_law_pick" 2 ["_law_dice_here", "_law_items"] (sp__law_pick K)) (c__law_some : CalN P w K mg base "_law_some" 2 ["_law_dice_here", "_law_items", "_law_size"] (sp__law_some2 K)) (c__law_roll : CalN P w K mg base "_law_roll" 1 ["_law_dice_here", "_law_total"] (sp__law_roll K)) (c__law_known_library : CalN P w K mg base "_law_known_library" 3 ["_law_dice_here"] (sp__law_known_library K)) (c__law_kind : CalN P w K mg base "_law_kind" 14 ["_law_dice_here", "_law_atoms", "_law_order", "_law_most"] (sp__law_kind K)) {f : Addr} {fd : FuncData} (F : Fun K "_law_library" "_law_library" s__law_library f fd) : FnOk P w K mg base CX0 15 f fd ["_law_dice_here"] (sp__law_library K) := by
  have nd := sc__law_library.nd
  refine F.ok sc__law_library (fun vs H Q E h => ?_) (fun cdv A outer s H vs Q E hr h => ?_)
  · obtain ⟨d, rfl, _⟩ := h
    rfl
  · obtain ⟨d, rfl, di, q⟩ := h
    refine ⟨_, (pss_cons (ps_par (i := 1) (j := 2) (by rfl) nd rfl rfl (by decide) rfl rfl (pa_cons (pe_callN c__law_roll (hr.mono (by first | decide | omega)) rfl (pa_cons (pv 0) (pa_cons pe_int pa_nil))) (pa_cons pe_dnewK pa_nil)) (by rfl))
      (pss_cons (ps_if (pt_cmpR op_eq (pv 1) pe_int (nomark _)) (pss_one (ps_ret (pe_callN c__law_known_library (hr.mono (by first | decide | omega)) rfl (pa_cons (pv 0) pa_nil)))) pss_nil)
      (pss_cons (ps_set (i := 3) nd rfl (.inl rfl) (pe_callN c__law_pick (hr.mono (by first | decide | omega)) rfl (pa_cons (pv 0) (pa_cons (pe_lst (pa_cons (pe_lst (pa_cons pe_str (pa_cons pe_str pa_nil))) (pa_cons (pe_lst (pa_cons pe_str (pa_cons pe_str (pa_cons pe_str pa_nil)))) (pa_cons (pe_lst (pa_cons pe_str (pa_cons pe_str (pa_cons pe_str pa_nil)))) pa_nil)))) pa_nil))))
      (pss_cons (ps_for PassesOwn.never rfl (pi_list (pe_callN c__law_some (hr.mono (by first | decide | omega)) rfl (pa_cons (pv 0) (pa_cons (pe_lst (pa_cons pe_str (pa_cons pe_str (pa_cons pe_str (pa_cons pe_str (pa_cons pe_str pa_nil)))))) (pa_cons (pe_op op_add pe_int (pe_callN c__law_roll (hr.mono (by first | decide | omega)) rfl (pa_cons (pv 0) (pa_cons pe_int pa_nil)))) pa_nil))))) (pg_name (i := 4) nd rfl (.inl rfl)) (pss_one (ps_dput (by first | exact Nat.lt_of_le_of_lt (Nat.add_le_add_left (by decide : 1 ≤ 64) _) hr.units | exact Nat.lt_of_le_of_lt (Nat.add_le_add_left (by decide : 4 ≤ 64) _) hr.units | exact Nat.lt_of_le_of_lt (Nat.add_le_add_left (by decide : 7 ≤ 64) _) hr.units) (pv 2) (pv 4) (pe_callN c__law_kind (hr.mono (by first | decide | omega)) rfl (pa_cons (pv 0) (pa_cons (pv 3) (pa_cons (pe_callN c__law_pick (hr.mono (by first | decide | omega)) rfl (pa_cons (pv 0) (pa_cons (pe_lst (pa_cons pe_int (pa_cons pe_int (pa_cons pe_int (pa_cons pe_int pa_nil))))) pa_nil))) (pa_cons pe_int pa_nil))))) (by rfl))))
      (pss_one (ps_ret (pv 2))))))), ?_⟩
    have t2 : 2 ≤ sizeLine := by decide
    have t3 : 3 ≤ sizeLine := by decide
    have t4 : 4 ≤ sizeLine := by decide
    have t5 : 5 ≤ sizeLine := by decide
    refine ⟨.ref d, rfl, d, 8, rfl, di, by decide, by decide, fun r H1 r0 r1 e1 d1 => fun f hf => ?_⟩
    dsimp only
    have fd : f ≠ d := d1.ne hf
    have e2 := e1.new (o := .dK []) hf
    have d2 := d1.new (o := .dK []) hf
    have nf : H f = none := Ext.none e1 fd hf
    have hf2 : upd H1 f (.dK []) f = some (.dK []) := upd_same
    generalize upd H1 f (.dK []) = H2 at e2 d2 hf2
    refine ⟨_, _, rfl, .int r, rfl, rfl, _, rfl, ite2 (fun c => ?_) (fun c => ?_)⟩
    · exact ⟨.ref d, rfl, d, rfl, d2, fun l kvs L H' dr hl hq e3 d3 => q l kvs L H' dr hl hq (e2.trans e3) d3⟩
    refine nx_go ?_
    dsimp only
    refine ⟨.ref d, rfl, t2, fun l1 h1 => ⟨t3, fun l2 h2 => ⟨t3, fun l3 h3 => ⟨t3, fun lo ho => ?_⟩⟩⟩⟩
    have s3 := ((((Same.refl H2).new (o := .lst [V.str "a", .str "b"]) h1).new (o := .lst [V.str "a", .str "b", .str "c"]) h2).new (o := .lst [V.str "a", .str "b", .str "c"]) h3).new (o := .lst [V.ref l1, .ref l2, .ref l3]) ho
    have g1 : upd (upd (upd (upd H2 l1 (.lst [V.str "a", .str "b"])) l2 (.lst [V.str "a", .str "b", .str "c"])) l3 (.lst [V.str "a", .str "b", .str "c"])) lo (.lst [V.ref l1, .ref l2, .ref l3]) l1 = some (.lst [V.str "a", .str "b"]) :=
      ((((Same.refl _).new h2).new h3).new ho) _ _ upd_same
    have g2 : upd (upd (upd (upd H2 l1 (.lst [V.str "a", .str "b"])) l2 (.lst [V.str "a", .str "b", .str "c"])) l3 (.lst [V.str "a", .str "b", .str "c"])) lo (.lst [V.ref l1, .ref l2, .ref l3]) l2 = some (.lst [V.str "a", .str "b", .str "c"]) :=
      (((Same.refl _).new h3).new ho) _ _ upd_same
    have g3 : upd (upd (upd (upd H2 l1 (.lst [V.str "a", .str "b"])) l2 (.lst [V.str "a", .str "b", .str "c"])) l3 (.lst [V.str "a", .str "b", .str "c"])) lo (.lst [V.ref l1, .ref l2, .ref l3]) l3 = some (.lst [V.str "a", .str "b", .str "c"]) :=
      ((Same.refl _).new ho) _ _ upd_same
    have go : upd (upd (upd (upd H2 l1 (.lst [V.str "a", .str "b"])) l2 (.lst [V.str "a", .str "b", .str "c"])) l3 (.lst [V.str "a", .str "b", .str "c"])) lo (.lst [V.ref l1, .ref l2, .ref l3]) lo = some (.lst [V.ref l1, .ref l2, .ref l3]) := upd_same
    have m1 : l1 ≠ d := d2.ne h1
    have m2 : l2 ≠ d := (d2.same ((Same.refl H2).new h1)).ne h2
    have m3 : l3 ≠ d := (d2.same (((Same.refl H2).new h1).new h2)).ne h3
    have mo : lo ≠ d := (d2.same ((((Same.refl H2).new h1).new h2).new h3)).ne ho
    generalize upd (upd (upd (upd H2 l1 (.lst [V.str "a", .str "b"])) l2 (.lst [V.str "a", .str "b", .str "c"])) l3 (.lst [V.str "a", .str "b", .str "c"])) lo (.lst [V.ref l1, .ref l2, .ref l3]) = H3 at s3 g1 g2 g3 go
    have d3 := d2.same s3
    have e3 := e2.trans (Ext.same s3)
    have hf3 := s3 _ _ hf2
    clear h1 h2 h3 ho
    refine ⟨d, lo, _, rfl, d3, SqL.of go, mo, by simp, by show 3 < 1000000; decide, fun x H4 hx e34 d4 => ?_⟩
    have xA : ∃ la A, x = .ref la ∧ la ≠ d ∧ H4 la = some (.lst ((A : List Str).map V.str)) ∧ AbcOk A := by
      rcases List.mem_cons.mp hx with rfl | hx
      · exact ⟨l1, ["a", "b"], rfl, m1, e34 _ _ m1 g1, abc_ok _ (List.mem_cons_self ..)⟩
      rcases List.mem_cons.mp hx with rfl | hx
      · exact ⟨l2, ["a", "b", "c"], rfl, m2, e34 _ _ m2 g2, abc_ok _ (List.mem_cons_of_mem _ (List.mem_cons_self ..))⟩
      · exact ⟨l3, ["a", "b", "c"], List.mem_singleton.mp hx, m3, e34 _ _ m3 g3, abc_ok _ (List.mem_cons_of_mem _ (List.mem_cons_self ..))⟩
    obtain ⟨la, A, rfl, md, hA, okA⟩ := xA
    have hf4 := e34 _ _ fd hf3
    have e4 := e3.trans e34
    clear g1 g2 g3 go m1 m2 m3 mo hf3 hf2 e34 e3 d3 s3 hx e1 d1 e2 d2 hf
    refine asg_go2 ?_
    dsimp only
    -- the names
    refine cut_for (fun σ' H' => ∃ s4 kvs L, σ' = [some (.ref d), some (.int r), some (.ref f), some (.ref la), s4] ∧ H' f = some (.dK kvs) ∧ IsQ H' L kvs ∧ Lib.Drawn L ∧ Ext d H H' ∧ IsDice H' d) (fun N hN => ?_) ?_
    · refine ⟨.ref d, rfl, t5, fun ln hn => ?_⟩
      have s5 := (Same.refl H4).new (o := .lst [V.str "f", .str "g", .str "h", .str "k", .str "z"]) hn
      have d5 := d4.same s5
      have nl : ln ≠ d := d4.ne hn
      have e5 := e4.trans (Ext.same s5)
      have hf5 := s5 _ _ hf4
      have hA5 := s5 _ _ hA
      have hl5 : upd H4 ln (.lst [V.str "f", .str "g", .str "h", .str "k", .str "z"]) ln = some (.lst (five.map V.str)) := by rw [upd_same]; rfl
      generalize upd H4 ln (.lst [V.str "f", .str "g", .str "h", .str "k", .str "z"]) = H5 at d5 e5 hf5 hA5 hl5
      clear s5 hf4 hA e4 d4 hn
      refine ⟨.ref d, rfl, d, 5, rfl, d5, by decide, by decide, fun r2 H6 q0 q1 e6 d6 => ⟨1, r2, rfl, rfl, ?_⟩⟩
      obtain ⟨k, rfl⟩ := Int.eq_ofNat_of_zero_le q0
      have hf6 := e6 _ _ fd hf5
      have hA6 := e6 _ _ md hA5
      have e56 := e5.trans e6
      refine ⟨d, ln, five.map V.str, 1 + k, by rw [Int.natCast_add]; rfl, d6, SqL.of (e6 _ _ nl hl5), nl, by show 5 < 1000000; decide, by show 1 + k ≤ 5; omega, fun p ys left H7 pm ly np pd hp e7 d7 => ?_⟩
      have mem : ∀ y ∈ ys, y ∈ five.map V.str := fun y hy => pm.mem_iff.mp (List.mem_append_left _ hy)
      obtain ⟨ns, rfl⟩ := strs_of fun y hy => by
        obtain ⟨n, _, e⟩ := List.mem_map.mp (mem y hy)
        exact ⟨n, e.symm⟩
      have nns : ns.Nodup := by
        have h1 := (pm.nodup_iff.mpr five_nd)
        have h2 := (List.nodup_append.mp h1).1
        exact List.Pairwise.imp (fun a b => a (congrArg V.str b)) (List.pairwise_map.mp h2)
      have n5 : ∀ n ∈ ns, wdB n = true ∧ n.length = 1 := fun n hn => by
        obtain ⟨n', h1, h2⟩ := List.mem_map.mp (mem _ (List.mem_map_of_mem hn))
        cases h2
        exact five_ok n h1
      rw [List.length_map] at ly
      have hf7 := e7 _ _ fd hf6
      have hA7 := e7 _ _ md hA6
      have e67 := e56.trans e7
      clear pm mem hf5 hf6 hA5 hA6 e6 e56 e7 hl5 d5 d6
      refine ⟨p, rfl, ⟨_, SqL.of hp⟩, for_list (xs := ns.map V.str) (fun i σ' H' => ∃ s4 kvs L, σ' = [some (.ref d), some (.int r), some (.ref f), some (.ref la), s4] ∧ H' f = some (.dK kvs) ∧ IsQ H' L kvs ∧ Lib.Drawn L ∧ L.names = ns.take i ∧ H' p = some (.lst (ns.map V.str)) ∧ H' la = some (.lst (A.map V.str)) ∧ Ext d H H' ∧ IsDice H' d) ?_ (fun i σ' H' _ hP => ?_) (fun i y σ' H' hy hP => ?_) (fun σ' H' hP => ?_)⟩
      · exact ⟨none, [], [], rfl, hf7, rfl, Lib.Drawn.nil, by rw [List.take_zero]; rfl, hp, hA7, e67, d7⟩
      · obtain ⟨_, _, _, _, _, _, _, _, hp', _⟩ := hP
        exact SqL.of hp'
      · obtain ⟨s4, kvs, L, rfl, hf8, hq8, dr, en, hp8, hA8, e8, d8⟩ := hP
        have io := lt_of_get hy
        rw [List.length_map] at io
        rw [List.getElem?_map, List.getElem?_eq_getElem io] at hy
        cases hy
        obtain ⟨wb, l1⟩ := n5 _ (List.getElem_mem io)
        refine ⟨.ref d, rfl, .ref la, rfl, .ref d, rfl, t4, fun l4 h4 => ?_⟩
        have s9 := (Same.refl H').new (o := .lst [V.int 0, .int 1, .int 1, .int 2]) h4
        refine ⟨d, l4, _, rfl, d8.same s9, SqL.of upd_same, d8.ne h4, by simp, by show 4 < 1000000; decide, fun x H9 hx e9 d9 => ?_⟩
        obtain ⟨o, rfl, o2⟩ := pick_low hx
        have hA9 := e9 _ _ md (s9 _ _ hA8)
        have hd89 := s9.heldD.trans (e9.heldD (d8.same s9))
        refine ⟨d, la, A, o, 4, rfl, d9, hA9, md, okA.1, Nat.le_trans okA.2.1 (by decide), by omega, by omega, by decide, by decide, fun v t Ha hv lo4 le4 inA ea da => ?_⟩
        have hda := hd89.trans (ea.heldD d9)
        have hfa := hda _ _ hf8 trivial
        have hqa := hq8.held hda.held
        have ll : L.length = i := by
          have := congrArg List.length en
          rw [Lib.names, List.length_map, List.length_take] at this
          omega
        have out : ns[i] ∉ L.names := by
          rw [en]
          exact out_take nns io
        have ft : t.Fits := kind_fits okA.2.2 inA (by omega) (by omega)
        have kl := hqa.len
        refine ⟨.ref f, rfl, .str ns[i], rfl, f, _, rfl, .k (k := Sum.inr ns[i]) hfa (lt_line' (by omega)), ?_⟩
        have hh := held_dk (o := .dK (putK kvs (Sum.inr ns[i]) v)) hfa
        rw [putK_new _ (hqa.none_of out)] at hh ⊢
        refine ⟨_, _, _, rfl, upd_same, (hqa.held hh).app (IsK.held hh _ _ hv), dr.add (wdB_wd wb) ft l1 le4 (by omega) out (by omega), ?_, ?_, ?_, ?_, ?_⟩
        · rw [Lib.names, List.map_append, ← Lib.names, en, take_next (List.getElem?_eq_getElem io)]
          rfl
        · have z := ea _ _ pd (e9 _ _ pd (s9 _ _ hp8))
          rw [upd_ne (ne_of z hfa (fun z => nomatch z))]
          exact z
        · have z := ea _ _ md hA9
          rw [upd_ne (ne_of z hfa (fun z => nomatch z))]
          exact z
        · exact ((e8.trans (Ext.same s9)).trans (e9.trans ea)).mut nf
        · exact da.mut fd
      · obtain ⟨s4, kvs, L, rfl, hf8, hq8, dr, en, hp8, hA8, e8, d8⟩ := hP
        exact hN _ _ ⟨s4, kvs, L, rfl, hf8, hq8, dr, e8, d8⟩
    rintro σ' H' ⟨s4, kvs, L, rfl, hd', hq, dr, e9, d9⟩
    exact ⟨.ref f, rfl, q f kvs L H' dr hd' hq e9 d9⟩
end


end My
namespace My
open PySem PySem.Spec PyProof.Rows L2 TL
/-! ### two dicts that hold the same objects, or not as many -/
theorem valueAt_ref {kvs : List (Key × V)} {vb : List (Key × Value)} (r : KV kvs vb) {k : Key} {c : Addr} (h : valV kvs k = some (.ref c)) : valueAt vb k = some (.ref c) := by
  induction r with
  | nil => cases h
  | @cons p q l1 l2 a r ih =>
    obtain ⟨e, rv⟩ := a
    by_cases z : p.1 = k
    · rw [valV_pos z] at h
      have e2 : p.2 = .ref c := Option.some.inj h
      rw [e2] at rv
      have e3 : q.2 = .ref c := rv
      unfold valueAt
      rw [List.find?_cons_of_pos (by simpa [← e] using z)]
      exact congrArg some e3
    · rw [valV_neg z] at h
      have g := ih h
      unfold valueAt at g ⊢
      rw [List.find?_cons_of_neg (by simpa [← e] using z)]
      exact g
theorem hits_same {A : Around} {s : Shared} {kvs : List (Key × V)} {vb : List (Key × Value)} (rb : KV kvs vb) {ks : List (Key × V)} {va : List (Key × Value)} (ra : KV ks va) (h : ∀ p ∈ ks, ∃ c, p.2 = .ref c ∧ valV kvs p.1 = some (.ref c)) : PySem.W.KeqHits A s vb va true := by
  induction ra with
  | nil => exact .nil
  | @cons p q l1 l2 a r ih =>
    obtain ⟨e, rv⟩ := a
    obtain ⟨c, e2, g⟩ := h p (List.mem_cons_self ..)
    rw [e2] at rv
    obtain ⟨qk, qv⟩ := q
    obtain rfl : qv = .ref c := rv
    have g2 := valueAt_ref rb g
    rw [show p.1 = qk from e] at g2
    exact .hit (e := true) (b := true) g2 (SeqAt.EqAt.same _) (ih fun z hz => h z (List.mem_cons_of_mem _ hz))
def rEqDI : R2 := fun x y H Q => ∃ a b ks ls, x = .ref a ∧ y = .ref b ∧ H a = some (.dK ks) ∧ H b = some (.dK ls) ∧ (ks.length = ls.length → ∀ p ∈ ks, ∃ c, p.2 = .ref c ∧ valV ls p.1 = some (.ref c)) ∧ Q (.bl (ks.length == ls.length)) H
theorem op_eqDI {X : Cx} (hu : X.A.units < cLine) : OpR X (compareOp .Eq) rEqDI := fun pins s σ H x y v u Q I rx ry h => by
  obtain ⟨a, b, ks, ls, rfl, rfl, ha, hb, hp, q⟩ := h
  obtain rfl : v = .ref a := rx
  obtain rfl : u = .ref b := ry
  obtain ⟨_, ya, va, ra, da⟩ := dk_of I.hok ha
  obtain ⟨_, yb, vb, rb, db⟩ := dk_of I.hok hb
  refine PySem.W.keq_eq (r := true) ya yb da db hu (fun e => hits_same rb ra (hp (by rw [ra.length, rb.length, e]))) (fin_bl I q ?_)
  rw [Bool.and_true, ra.length, rb.length]


end My
namespace My
open PySem PySem.Spec PyProof.Rows L2 TL
/-! ### zip(a tuple, a list): walked, and made a list of -/
open PySem.Calls in
section
variable {prog : Program} {w : World} {A : Around} {E : Value → Shared → Prop} {s : Shared} {z TI TO T i1 i2 : Addr} {fp1 fp2 : List Addr} {n1 n2 n i : Nat} {P1 P2 : Nat → Value → Prop} {St1 St2 : Nat → Heap → Prop} {f : Bool} {oT : Obj}
theorem zipH_next_item {Q : Value → Shared → Prop} (S : ZipSep2 z TI TO i1 i2 fp1 fp2) (D1 : Draws prog w A i1 fp1 n1 P1 St1) (D2 : Draws prog w A i2 fp2 n2 P2 St2)
    (hz : IsZipHeld s.heap z TI TO T f) (hT : s.heap.get? T = some oT) (hTI : IsTupOf2 s.heap TI (.ref i1) (.ref i2)) (st1 : St1 i s.heap) (st2 : St2 i s.heap) (hlt1 : i < n1) (hlt2 : i < n2)
    (hQ : ∀ x y h' tk, P1 i x → P2 i y → IsZipHeld h' z TI TO T true → St1 (i + 1) h' → St2 (i + 1) h' → IsTupOf2 h' s.heap.objs.size x y → h'.objs.size = s.heap.objs.size + 1 →
      (∀ c o, c ≠ z → c ≠ i1 → c ≠ i2 → s.heap.get? c = some o → h'.get? c = some o) → Q (.ref s.heap.objs.size) { s with heap := h', toks := tk }) :
    wpAny (model prog w) A (Builtin.«zip.__next__» ⟨[.ref z], []⟩) (fun fin s' => ∃ v, fin = .done (.ret v) ∧ Q v s') E s := by
  obtain ⟨hp, g, d, tk0, os⟩ := s
  show wpAny _ _ (field (.ref z) 2 >>= _) _ _ _
  refine wpAny_bind (wpAny_field hz rfl (x := .bool false) rfl ?_)
  show wpAny _ _ (field (.ref z) 3 >>= _) _ _ _
  refine wpAny_bind (wpAny_field hz rfl (x := .ref TI) rfl ?_)
  refine wpAny_bind (wpAny_seqItems hTI rfl ?_)
  show wpAny _ _ (Builtin.SmallTypes.ownedTupleIsFree (.ref z) >>= _) _ _ _
  refine wpAny_bind (wpAny_tupleHeld_zip hz hT fun h₁ hz₁ hs₁ => ?_)
  replace hs₁ : Heap.SameBut z hp h₁ := hs₁
  simp only [Bool.false_eq_true, if_false]
  refine wpAny_bind ?_
  rw [← Array.forIn_toList]
  simp only [List.forIn_cons, List.forIn_nil]
  refine wpAny_bind (wpAny_bind (wpAny_holding ?_))
  show wpAny _ _ (Builtin.SmallTypes.nextOf (.ref i1) >>= _) _ _ ⟨h₁, g, d, tk0, os⟩
  refine wpAny_bind (D1.item i _ _ _ hlt1 (D1.over st1 hs₁ S.zf1) fun x h₂ tk1 hx sn1 hs₂ => wpAny_pure ?_)
  replace hs₂ : Heap.SameBut i1 h₁ h₂ := hs₂
  refine wpAny_pure ?_
  refine wpAny_bind (wpAny_bind (wpAny_holding ?_))
  show wpAny _ _ (Builtin.SmallTypes.nextOf (.ref i2) >>= _) _ _ ⟨h₂, g, d, tk1, os⟩
  refine wpAny_bind (D2.item i _ _ _ hlt2 (D2.over (D2.over st2 hs₁ S.zf2) hs₂ S.sep1_2) fun y h₃ tk2 hy sn2 hs₃ => wpAny_pure ?_)
  replace hs₃ : Heap.SameBut i2 h₂ h₃ := hs₃
  refine wpAny_pure (wpAny_pure ?_)
  show wpAny _ _ (newTuple [x, y] >>= _) _ _ ⟨h₃, g, d, tk2, os⟩
  refine wpAny_bind (wpAny_newTuple ?_)
  have hsz : h₃.objs.size = hp.objs.size := by rw [hs₃.1, hs₂.1, hs₁.1]
  have hz₃ : IsZipHeld h₃ z TI TO T true := hs₃.extBut _ _ S.zi2 (hs₂.extBut _ _ S.zi1 hz₁)
  have hk : ∀ c o, c ≠ z → c ≠ i1 → c ≠ i2 → hp.get? c = some o → h₃.get? c = some o := fun c o c1 c2 c3 e => hs₃.extBut _ _ c3 (hs₂.extBut _ _ c2 (hs₁.extBut _ _ c1 e))
  refine wpAny_pure ⟨_, rfl, ?_⟩
  show Q (.ref h₃.objs.size) _
  have hpp : IsTupOf2 (h₃.push { cls := .type "tuple", data := .seq #[x, y] }) h₃.objs.size x y := Heap.get?_push_size _ rfl
  have hz4 : (h₃.push { cls := .type "tuple", data := .seq #[x, y] }).objs.size = h₃.objs.size + 1 := Heap.size_push ..
  rw [hsz] at hpp hz4 ⊢
  exact hQ x y _ tk2 hx hy (Heap.get?_push_of_some _ hz₃) (D1.frame _ _ _ (D1.over sn1 hs₃ S.sep2_1) fun b _ o e => Heap.get?_push_of_some _ e) (D2.frame _ _ _ sn2 fun b _ o e => Heap.get?_push_of_some _ e) hpp hz4
    fun c o c1 c2 c3 e => Heap.get?_push_of_some _ (hk c o c1 c2 c3 e)
theorem zipH_next_end {Q : Fin → Shared → Prop} (S : ZipSep2 z TI TO i1 i2 fp1 fp2) (D1 : Draws prog w A i1 fp1 n1 P1 St1) (D2 : Draws prog w A i2 fp2 n2 P2 St2)
    (hz : IsZipHeld s.heap z TI TO T f) (hT : s.heap.get? T = some oT) (hTI : IsTupOf2 s.heap TI (.ref i1) (.ref i2)) (st1 : St1 n1 s.heap)
    (hE : ∀ h' tk e, (∀ c o, c ≠ z → c ≠ i1 → c ≠ i2 → s.heap.get? c = some o → h'.get? c = some o) → (∃ o, h'.get? e = some o ∧ o.cls = .type "StopIteration") → E (.ref e) { s with heap := h', toks := tk }) :
    wpAny (model prog w) A (Builtin.«zip.__next__» ⟨[.ref z], []⟩) Q E s := by
  obtain ⟨hp, g, d, tk0, os⟩ := s
  show wpAny _ _ (field (.ref z) 2 >>= _) _ _ _
  refine wpAny_bind (wpAny_field hz rfl (x := .bool false) rfl ?_)
  show wpAny _ _ (field (.ref z) 3 >>= _) _ _ _
  refine wpAny_bind (wpAny_field hz rfl (x := .ref TI) rfl ?_)
  refine wpAny_bind (wpAny_seqItems hTI rfl ?_)
  show wpAny _ _ (Builtin.SmallTypes.ownedTupleIsFree (.ref z) >>= _) _ _ _
  refine wpAny_bind (wpAny_tupleHeld_zip hz hT fun h₁ hz₁ hs₁ => ?_)
  replace hs₁ : Heap.SameBut z hp h₁ := hs₁
  simp only [Bool.false_eq_true, if_false]
  refine wpAny_bind ?_
  rw [← Array.forIn_toList]
  simp only [List.forIn_cons, List.forIn_nil]
  refine wpAny_bind (wpAny_bind (wpAny_holding ?_))
  show wpAny _ _ (Builtin.SmallTypes.nextOf (.ref i1) >>= _) _ _ ⟨h₁, g, d, tk0, os⟩
  refine wpAny_bind (D1.done _ _ _ (D1.over st1 hs₁ S.zf1) fun h₂ e hs₂ he => ?_)
  exact hE h₂ tk0 e (fun c o c1 c2 _ x => hs₂ _ _ c2 (hs₁.extBut _ _ c1 x)) he
theorem pyNext_zipH_item {Q : Option Value → Shared → Prop} (S : ZipSep2 z TI TO i1 i2 fp1 fp2) (D1 : Draws prog w A.in1 i1 fp1 n1 P1 St1) (D2 : Draws prog w A.in1 i2 fp2 n2 P2 St2)
    (hz : IsZipHeld s.heap z TI TO T f) (hT : s.heap.get? T = some oT) (hTI : IsTupOf2 s.heap TI (.ref i1) (.ref i2)) (st1 : St1 i s.heap) (st2 : St2 i s.heap) (hlt1 : i < n1) (hlt2 : i < n2)
    (hQ : ∀ x y h' tk, P1 i x → P2 i y → IsZipHeld h' z TI TO T true → St1 (i + 1) h' → St2 (i + 1) h' → IsTupOf2 h' s.heap.objs.size x y → h'.objs.size = s.heap.objs.size + 1 →
      (∀ c o, c ≠ z → c ≠ i1 → c ≠ i2 → s.heap.get? c = some o → h'.get? c = some o) → Q (some (.ref s.heap.objs.size)) { s with heap := h', toks := tk }) :
    wpAny (model prog w) A (pyNext (.ref z)) Q E s := by
  have hTy : s.TypeIs (.ref z) "zip" := ⟨_, hz, rfl⟩
  unfold pyNext
  exact wpAny_bind (wpAny_attempt (wpAny_callSpecial?_slot (name := Str.ofString "__next__") hTy F.slot_zip_next
    (wpAny_call_entry F.slot_zip_next hTy F.entry_zip_next
      (zipH_next_item S D1 D2 hz hT hTI st1 st2 hlt1 hlt2 fun x y h' tk a0 a00 a1 a3 a4 a5 a6 a7 => wpAny_pure (hQ x y h' tk a0 a00 a1 a3 a4 a5 a6 a7)) (F.args_zip_next_1 _))))
theorem pyNext_zipH_end {Q : Option Value → Shared → Prop} (S : ZipSep2 z TI TO i1 i2 fp1 fp2) (D1 : Draws prog w A.in1 i1 fp1 n1 P1 St1) (D2 : Draws prog w A.in1 i2 fp2 n2 P2 St2)
    (hz : IsZipHeld s.heap z TI TO T f) (hT : s.heap.get? T = some oT) (hTI : IsTupOf2 s.heap TI (.ref i1) (.ref i2)) (st1 : St1 n1 s.heap)
    (hQ : ∀ h' tk, (∀ c o, c ≠ z → c ≠ i1 → c ≠ i2 → s.heap.get? c = some o → h'.get? c = some o) → Q none { s with heap := h', toks := tk }) : wpAny (model prog w) A (pyNext (.ref z)) Q E s := by
  have hTy : s.TypeIs (.ref z) "zip" := ⟨_, hz, rfl⟩
  unfold pyNext
  refine wpAny_bind (wpAny_attempt (wpAny_callSpecial?_slot (name := Str.ofString "__next__") hTy F.slot_zip_next
    (wpAny_call_entry F.slot_zip_next hTy F.entry_zip_next (zipH_next_end S D1 D2 hz hT hTI st1 fun h' tk e hk he => ?_) (F.args_zip_next_1 _))))
  obtain ⟨o, ho, hc⟩ := he
  refine wpAny_bind (wpAny_isInstance (T := "StopIteration") (b := true) ⟨o, ho, hc⟩ isSubtype_stop ?_)
  exact wpAny_pure (hQ _ _ hk)
/-- the zip at turn i, its last tuple still out or none given out yet -/
def ZlSt (h : Heap) (z TI TO i1 i2 S : Addr) (St1 St2 : Nat → Heap → Prop) (i : Nat) : Prop :=
  IsTupOf2 h TI (.ref i1) (.ref i2) ∧ St1 i h ∧ St2 i h ∧ ((IsZip h z TI TO .none ∧ ∃ a b, IsTupOf2 h TO a b) ∨ ∃ T f oT, IsZipHeld h z TI TO T f ∧ h.get? T = some oT ∧ T ≠ z ∧ T ≠ i1 ∧ T ≠ i2 ∧ T ≠ S)
structure ZG (P1 P2 : Nat → Value → Prop) (lo : Addr) (h : Heap) (as : List Addr) : Prop where
  rise : as.Pairwise (· < ·)
  above : ∀ a ∈ as, lo < a
  pairs : ∀ (j : Nat) (a : Addr), as[j]? = some a → ∃ x y, P1 j x ∧ P2 j y ∧ h.get? a = some { cls := .type "tuple", data := .seq #[x, y] }
theorem ZG.there {lo : Addr} {h : Heap} {as : List Addr} (g : ZG P1 P2 lo h as) {a : Addr} (ha : a ∈ as) : a < h.objs.size := by
  obtain ⟨j, hj⟩ := List.mem_iff_getElem?.mp ha
  obtain ⟨_, _, _, _, e⟩ := g.pairs j a hj
  exact Heap.lt_size e
theorem zl_loop {R : Result → Shared → Prop} {S : Addr} (Z : ZipSep2 z TI TO i1 i2 fp1 fp2) (D1 : Draws prog w A.in1.in1 i1 fp1 n P1 St1) (D2 : Draws prog w A.in1.in1 i2 fp2 n P2 St2)
    (lz : z < S) (lTI : TI < S) (lTO : TO < S) (l1 : ∀ b ∈ fp1, b < S) (l2 : ∀ b ∈ fp2, b < S) (hn : n ≤ sizeLine) (res : Value) {h₁ : Heap}
    (hR : ∀ h' tk acc c as, (∀ b o, b ≠ S → b ≠ z → b ≠ TO → b ≠ i1 → b ≠ i2 → h₁.get? b = some o → h'.get? b = some o) → h'.get? S = some { cls := .type "list", dict := none, data := .seq acc c, slots := #[] } → as.length = n → ZG P1 P2 S h' as →
      acc.toList = as.map Value.ref → R (.ok (.ret res)) { s with heap := h', toks := tk }) :
    ∀ (k i : Nat) (h : Heap) (tk c : Nat) (acc : Array Value) (as : List Addr), n - i = k → i ≤ n → ZlSt h z TI TO i1 i2 S St1 St2 i → (∀ b o, b ≠ S → b ≠ z → b ≠ TO → b ≠ i1 → b ≠ i2 → h₁.get? b = some o → h.get? b = some o) →
      h.get? S = some { cls := .type "list", dict := none, data := .seq acc c, slots := #[] } → acc.toList = as.map Value.ref → as.length = i → ZG P1 P2 S h as →
      codeAny (model prog w) A (.builtin "list.extend.loop" ⟨[.ref S, .ref z, res], []⟩) R { s with heap := h, toks := tk } := by
  have ne : S ≠ z := Nat.ne_of_gt lz
  have nTO : S ≠ TO := Nat.ne_of_gt lTO
  have ni1 : S ≠ i1 := Nat.ne_of_gt (l1 _ Z.mem1)
  have ni2 : S ≠ i2 := Nat.ne_of_gt (l2 _ Z.mem2)
  have nTI : TI ≠ S := Nat.ne_of_lt lTI
  have up0 : ∀ {a : Addr}, S < a → a ≠ z ∧ a ≠ TO ∧ a ≠ i1 ∧ a ≠ i2 := fun h => ⟨Nat.ne_of_gt (Nat.lt_trans lz h), Nat.ne_of_gt (Nat.lt_trans lTO h), Nat.ne_of_gt (Nat.lt_trans (l1 _ Z.mem1) h), Nat.ne_of_gt (Nat.lt_trans (l2 _ Z.mem2) h)⟩
  intro k
  induction k with
  | zero =>
    intro i h tk c acc as hk hi hst hkeep hS hacc hal hG
    have hin : i = n := by omega
    subst hin
    refine codeAny_builtin F.entry_extend_loop ?_
    rw [Around.under_plainId F.plain_extend_loop _]
    show wpAny _ A.in1 (pyNext (.ref z) >>= _) _ _ _
    obtain ⟨hTI, st1, st2, hz⟩ := hst
    have fin : ∀ h' tk', (∀ c o, c ≠ z → c ≠ TO → c ≠ i1 → c ≠ i2 → h.get? c = some o → h'.get? c = some o) → R (.ok (.ret res)) { s with heap := h', toks := tk' } := fun h' tk' kp =>
      hR h' tk' acc c as (fun b o b1 b2 b3 b4 b5 e => kp b o b2 b3 b4 b5 (hkeep b o b1 b2 b3 b4 b5 e)) (kp S _ ne nTO ni1 ni2 hS) (by omega) ⟨hG.rise, hG.above, fun j a hj => by
        obtain ⟨x, y, e1, e2, e3⟩ := hG.pairs j a hj
        obtain ⟨q1, q2, q3, q4⟩ := up0 (hG.above a (List.mem_of_getElem? hj))
        exact ⟨x, y, e1, e2, kp a _ q1 q2 q3 q4 e3⟩⟩ hacc
    rcases hz with ⟨hz, a, b, hTO⟩ | ⟨T, f, oT, hz, hT, r1, r2, r3, r4⟩
    · exact wpAny_bind (wpAny_pyNext_zipD2_end (s := { s with heap := h, toks := tk }) Z D1 D2 hz hTI hTO st1 st2 (Nat.le_refl _) (Nat.le_refl _) (.inl rfl) fun h' tk' kp => wpAny_pure (fin h' tk' kp))
    · exact wpAny_bind (pyNext_zipH_end (s := { s with heap := h, toks := tk }) Z D1 D2 hz hT hTI st1 fun h' tk' kp => wpAny_pure (fin h' tk' fun c o c1 _ c3 c4 e => kp c o c1 c3 c4 e))
  | succ k ih =>
    intro i h tk c acc as hk hi hst hkeep hS hacc hal hG
    have hlt : i < n := by omega
    have hsz : acc.size = i := by rw [← Array.length_toList, hacc, List.length_map, hal]
    have hSl : S < h.objs.size := Heap.lt_size hS
    refine codeAny_builtin F.entry_extend_loop ?_
    rw [Around.under_plainId F.plain_extend_loop _]
    show wpAny _ A.in1 (pyNext (.ref z) >>= _) _ _ _
    obtain ⟨hTI, st1, st2, hz⟩ := hst
    obtain ⟨u1, u2, u3, u4⟩ := up0 hSl
    have fin : ∀ x y h' tk', P1 i x → P2 i y → IsTupOf2 h' TI (.ref i1) (.ref i2) → St1 (i + 1) h' → St2 (i + 1) h' → (∃ T f oT, IsZipHeld h' z TI TO T f ∧ h'.get? T = some oT ∧ T ≠ z ∧ T ≠ i1 ∧ T ≠ i2 ∧ T ≠ S) → IsTupOf2 h' h.objs.size x y →
        (∀ c o, c ≠ z → c ≠ TO → c ≠ i1 → c ≠ i2 → h.get? c = some o → h'.get? c = some o) →
        wpAny (model prog w) A.in1 (updateSeq S (·.push (Value.ref h.objs.size)) >>= fun _ => again (.builtin "list.extend.loop" ⟨[.ref S, .ref z, res], []⟩))
          (fun fin s' => match fin with | .done f => R (.ok f) s' | .again c' => c'.quiet = true ∧ codeAny (model prog w) A c' R s') (fun e s' => R (.error e) s') { s with heap := h', toks := tk' } := by
      intro x y h' tk' hx hy hTI' st1' st2' hz' ht kp
      have hS' := kp S _ ne nTO ni1 ni2 hS
      have up : ∀ b o, b ≠ S → h'.get? b = some o → (h'.update S (Obj.mapSeq (·.push (Value.ref h.objs.size)))).get? b = some o := fun b o hb e => (Heap.get?_update_other _ _ (Ne.symm hb)).trans e
      refine wpAny_bind ?_
      refine wpAny_updateSeq hS' rfl (wpAny_pure ⟨plainId_quiet F.plain_extend_loop _, ih (i + 1) _ tk' _ (acc.push (Value.ref h.objs.size)) (as ++ [h.objs.size]) (by omega) hlt ?_
        (fun b o b1 b2 b3 b4 b5 e => up b o b1 (kp b o b2 b3 b4 b5 (hkeep b o b1 b2 b3 b4 b5 e))) (Heap.get?_update_self _ hS' rfl) (by rw [Array.toList_push, hacc, List.map_append]; rfl) (by rw [List.length_append, hal]; rfl) ⟨?_, ?_, ?_⟩⟩) (by rw [hsz]; omega) (by show (acc.push (Value.ref h.objs.size)).size ≤ sizeLine + 1; rw [Array.size_push, hsz]; omega)
      · obtain ⟨T, f, oT, hz, hT, r1, r2, r3, r4⟩ := hz'
        exact ⟨up _ _ nTI hTI', D1.frame _ _ _ st1' (fun b hb o e => up b o (Nat.ne_of_lt (l1 b hb)) e), D2.frame _ _ _ st2' (fun b hb o e => up b o (Nat.ne_of_lt (l2 b hb)) e), .inr ⟨T, f, oT, up _ _ (Ne.symm ne) hz, up _ _ r4 hT, r1, r2, r3, r4⟩⟩
      · refine List.pairwise_append.mpr ⟨hG.rise, List.pairwise_singleton _ _, fun a ha b hb => ?_⟩
        rw [List.mem_singleton.mp hb]
        exact hG.there ha
      · intro a ha
        rcases List.mem_append.mp ha with ha | ha
        · exact hG.above a ha
        · rw [List.mem_singleton.mp ha]; exact hSl
      · intro j b hj
        rcases Nat.lt_trichotomy j as.length with h1 | h1 | h1
        · rw [List.getElem?_append_left h1] at hj
          obtain ⟨x', y', e1, e2, e3⟩ := hG.pairs j b hj
          have hb := hG.above b (List.mem_of_getElem? hj)
          obtain ⟨q1, q2, q3, q4⟩ := up0 hb
          exact ⟨x', y', e1, e2, up b _ (Nat.ne_of_gt hb) (kp b _ q1 q2 q3 q4 e3)⟩
        · subst h1
          have hb : h.objs.size = b := by simpa using hj
          subst hb
          exact ⟨x, y, by rw [hal]; exact hx, by rw [hal]; exact hy, up _ _ (Nat.ne_of_gt hSl) ht⟩
        · have hnone : (as ++ [h.objs.size])[j]? = none := List.getElem?_eq_none (by rw [List.length_append, List.length_singleton]; omega)
          rw [hnone] at hj; cases hj
    rcases hz with ⟨hz, a, b, hTO⟩ | ⟨T, f, oT, hz, hT, r1, r2, r3, r4⟩
    · refine wpAny_bind (wpAny_pyNext_zipD2_item (s := { s with heap := h, toks := tk }) Z D1 D2 hz hTI hTO st1 st2 hlt hlt fun x y h' tk' hx hy a1 a2 a3 a4 a5 a6 kp => ?_)
      exact fin x y h' tk' hx hy (kp _ _ Z.TIz Z.TITO Z.TIi1 Z.TIi2 hTI) a3 a4 ⟨h.objs.size, false, _, a1, a5, u1, u3, u4, Nat.ne_of_gt hSl⟩ a5 kp
    · refine wpAny_bind (pyNext_zipH_item (s := { s with heap := h, toks := tk }) Z D1 D2 hz hT hTI st1 st2 hlt hlt fun x y h' tk' hx hy a1 a3 a4 a5 a6 kp => ?_)
      exact fin x y h' tk' hx hy (kp _ _ Z.TIz Z.TIi1 Z.TIi2 hTI) a3 a4 ⟨T, true, oT, a1, kp _ _ r1 r2 r3 hT, r1, r2, r3, r4⟩ a5 fun c o c1 _ c3 c4 e => kp c o c1 c3 c4 e
theorem zip_no_len : typeLookup (.type "zip") "__len__" = pure none := am_miss_of_fast (by decide +kernel)
theorem zip_no_hint : typeLookup (.type "zip") "__length_hint__" = pure none := am_miss_of_fast (by decide +kernel)
theorem ZlSt.over {h h' : Heap} {S : Addr} (D1 : Draws prog w A i1 fp1 n1 P1 St1) (D2 : Draws prog w A i2 fp2 n2 P2 St2) (lz : z ≠ S) (lTI : TI ≠ S) (lTO : TO ≠ S) (l1 : ∀ b ∈ fp1, b ≠ S) (l2 : ∀ b ∈ fp2, b ≠ S) (st : ZlSt h z TI TO i1 i2 S St1 St2 i) (k : ∀ b o, b ≠ S → h.get? b = some o → h'.get? b = some o) : ZlSt h' z TI TO i1 i2 S St1 St2 i := by
  obtain ⟨hTI, st1, st2, hz⟩ := st
  refine ⟨k _ _ lTI hTI, D1.frame _ _ _ st1 (fun b hb o e => k b o (l1 b hb) e), D2.frame _ _ _ st2 (fun b hb o e => k b o (l2 b hb) e), ?_⟩
  rcases hz with ⟨hz, a, b, hTO⟩ | ⟨T, f, oT, hz, hT, r1, r2, r3, r4⟩
  · exact .inl ⟨k _ _ lz hz, a, b, k _ _ lTO hTO⟩
  · exact .inr ⟨T, f, oT, k _ _ lz hz, k _ _ r4 hT, r1, r2, r3, r4⟩
theorem ZlSt.typeIs {h : Heap} {S : Addr} {s : Shared} (e : s.heap = h) (st : ZlSt h z TI TO i1 i2 S St1 St2 i) : s.TypeIs (.ref z) "zip" := by
  subst e
  obtain ⟨_, _, _, hz⟩ := st
  rcases hz with ⟨hz, _⟩ | ⟨T, f, oT, hz, _⟩
  · exact ⟨_, hz, rfl⟩
  · exact ⟨_, hz, rfl⟩
end
section
variable {prog : Program} {w : World} {A : Around} {E : Value → Shared → Prop} {s : Shared} {z TI TO i1 i2 : Addr} {fp1 fp2 : List Addr} {n : Nat} {P1 P2 : Nat → Value → Prop} {St1 St2 : Nat → Heap → Prop}
theorem zl_extend {R : Result → Shared → Prop} (S : Addr) (Z : ZipSep2 z TI TO i1 i2 fp1 fp2) (D1 : Draws prog w A.in1.in1 i1 fp1 n P1 St1) (D2 : Draws prog w A.in1.in1 i2 fp2 n P2 St2)
    (lz : z < S) (lTI : TI < S) (lTO : TO < S) (l1 : ∀ b ∈ fp1, b < S) (l2 : ∀ b ∈ fp2, b < S) (hn : n ≤ sizeLine) (res : Value) (c₀ : Nat)
    (hz : IsZip s.heap z TI TO .none) (hTO : IsTupOf2 s.heap TO .none .none) (hTI : IsTupOf2 s.heap TI (.ref i1) (.ref i2)) (st1 : St1 0 s.heap) (st2 : St2 0 s.heap) (hS : s.heap.get? S = some { cls := .type "list", data := .seq #[] c₀ })
    (hR : ∀ h' tk acc c as, (∀ b o, b ≠ S → b ≠ z → b ≠ TO → b ≠ i1 → b ≠ i2 → s.heap.get? b = some o → h'.get? b = some o) → h'.get? S = some { cls := .type "list", dict := none, data := .seq acc c, slots := #[] } → as.length = n → ZG P1 P2 S h' as →
      acc.toList = as.map Value.ref → R (.ok (.ret res)) { s with heap := h', toks := tk }) :
    wpAny (model prog w) A.in1 (Builtin.List.listExtendWith (.ref S) (.ref z) res)
      (fun fin s' => match fin with | .done f => R (.ok f) s' | .again c' => c'.quiet = true ∧ codeAny (model prog w) A c' R s') (fun e s' => R (.error e) s') s := by
  have hT : s.TypeIs (.ref z) "zip" := ⟨_, hz, rfl⟩
  have hSz : S ≠ z := Nat.ne_of_gt lz
  unfold Builtin.List.listExtendWith
  refine wpAny_bind (wpAny_typeOf hT ?_)
  have h1 : Builtin.List.listSameRef (.ref S) (.ref z) = false := by simp [Builtin.List.listSameRef, hSz]
  have h2 : (Value.type "zip" == Value.type "list") = false := by decide
  have h3 : (Value.type "zip" == Value.type "tuple") = false := by decide
  simp only [h1, h2, h3, Bool.or_false, Bool.false_eq_true, if_false]
  refine wpAny_bind (wpAny_pyIter_zip hz ?_)
  refine wpAny_bind (wpAny_holding ?_)
  unfold Builtin.List.listLengthHint
  refine wpAny_bind (wpAny_specialOf hT zip_no_len ?_)
  show wpAny _ A.in1 (specialOf (Value.ref z) (Str.ofString "__length_hint__") >>= _) _ _ _
  refine wpAny_bind (wpAny_specialOf hT zip_no_hint ?_)
  refine wpAny_pure ?_
  show wpAny _ A.in1 (rule "list.extend.makes-room" >>= fun _ => Builtin.List.listTouch (.ref S) >>= fun _ =>
    again (.builtin "list.extend.loop" ⟨[.ref S, .ref z, res], []⟩)) _ _ _
  refine wpAny_bind (wpAny_rule ?_)
  refine wpAny_bind ?_
  show wpAny _ A.in1 (updateSeq S (·.push .none) >>= fun _ => updateSeq S (·.pop)) _ _ _
  refine wpAny_bind (wpAny_updateSeq hS rfl ?_)
  have hS₂ := Heap.get?_update_self (Obj.mapSeq (·.push Value.none)) hS rfl
  refine wpAny_updateSeq (hz := by seq_fits) hS₂ rfl ?_
  have hS₃ := Heap.get?_update_self (Obj.mapSeq (·.pop)) hS₂ rfl
  have oth : ∀ b o, b ≠ S → s.heap.get? b = some o → ((s.heap.update S (Obj.mapSeq (·.push Value.none))).update S (Obj.mapSeq (·.pop))).get? b = some o :=
    fun b o hb e => (Heap.get?_update_other _ _ (Ne.symm hb)).trans ((Heap.get?_update_other _ _ (Ne.symm hb)).trans e)
  exact wpAny_pure ⟨plainId_quiet F.plain_extend_loop _, zl_loop (s := s) (h₁ := s.heap) Z D1 D2 lz lTI lTO l1 l2 hn res hR n 0 _ s.toks _ #[] [] (Nat.sub_zero _) (Nat.zero_le _)
    (ZlSt.over D1 D2 (Nat.ne_of_lt lz) (Nat.ne_of_lt lTI) (Nat.ne_of_lt lTO) (fun b hb => Nat.ne_of_lt (l1 b hb)) (fun b hb => Nat.ne_of_lt (l2 b hb)) ⟨hTI, st1, st2, .inl ⟨hz, _, _, hTO⟩⟩ oth) (fun b o hb _ _ _ _ e => oth b o hb e) hS₃ rfl rfl
    ⟨List.Pairwise.nil, (fun _ ha => nomatch ha), (fun j a hj => by simp at hj)⟩⟩
theorem zl_init {R : Result → Shared → Prop} (S : Addr) (Z : ZipSep2 z TI TO i1 i2 fp1 fp2) (D1 : Draws prog w A.in1.in1 i1 fp1 n P1 St1) (D2 : Draws prog w A.in1.in1 i2 fp2 n P2 St2)
    (lz : z < S) (lTI : TI < S) (lTO : TO < S) (l1 : ∀ b ∈ fp1, b < S) (l2 : ∀ b ∈ fp2, b < S) (hn : n ≤ sizeLine)
    (hz : IsZip s.heap z TI TO .none) (hTO : IsTupOf2 s.heap TO .none .none) (hTI : IsTupOf2 s.heap TI (.ref i1) (.ref i2)) (st1 : St1 0 s.heap) (st2 : St2 0 s.heap) (hS : s.heap.get? S = some { cls := .type "list", data := .seq #[] })
    (hR : ∀ h' tk acc c as, (∀ b o, b ≠ S → b ≠ z → b ≠ TO → b ≠ i1 → b ≠ i2 → s.heap.get? b = some o → h'.get? b = some o) → h'.get? S = some { cls := .type "list", dict := none, data := .seq acc c, slots := #[] } → as.length = n → ZG P1 P2 S h' as →
      acc.toList = as.map Value.ref → R (.ok (.ret .none)) { s with heap := h', toks := tk }) :
    wpAny (model prog w) A.in1 (Builtin.«list.__init__» ⟨[.ref S, .ref z], []⟩)
      (fun fin s' => match fin with | .done f => R (.ok f) s' | .again c' => c'.quiet = true ∧ codeAny (model prog w) A c' R s') (fun e s' => R (.error e) s') s := by
  show wpAny _ A.in1 (do let old ← Builtin.List.listItems (.ref S); Builtin.List.listUpdate (.ref S) (fun _ => #[]); letGo old.toList.reverse; Builtin.List.listExtendWith (.ref S) (.ref z) .none) _ _ s
  refine wpAny_bind ?_
  unfold Builtin.List.listItems
  refine wpAny_bind (wpAny_seqItems hS rfl (wpAny_pure ?_))
  show wpAny _ A.in1 (updateSeq S (fun _ => #[]) >>= fun _ => letGo (#[] : Array Value).toList.reverse >>= fun _ => Builtin.List.listExtendWith (.ref S) (.ref z) .none) _ _ s
  refine wpAny_bind (wpAny_updateSeq hS rfl ?_)
  have hS₂ := Heap.get?_update_self (Obj.mapSeq (fun _ => (#[] : Array Value))) hS rfl
  have oth : ∀ b o, b ≠ S → s.heap.get? b = some o → (s.heap.update S (Obj.mapSeq (fun _ => (#[] : Array Value)))).get? b = some o :=
    fun b o hb e => (Heap.get?_update_other _ _ (Ne.symm hb)).trans e
  refine wpAny_bind (wpAny_letGo ?_)
  refine zl_extend S Z D1 D2 lz lTI lTO l1 l2 hn .none _ (oth _ _ (Nat.ne_of_lt lz) hz) (oth _ _ (Nat.ne_of_lt lTO) hTO) (oth _ _ (Nat.ne_of_lt lTI) hTI) (D1.frame _ _ _ st1 fun b hb o e => oth b o (Nat.ne_of_lt (l1 b hb)) e)
    (D2.frame _ _ _ st2 fun b hb o e => oth b o (Nat.ne_of_lt (l2 b hb)) e) hS₂ fun h' tk acc c as hk hS' hl hG hacc => ?_
  exact hR h' tk acc c as (fun b o b1 b2 b3 b4 b5 e => hk b o b1 b2 b3 b4 b5 (oth b o b1 e)) hS' hl hG hacc
/-- list(z), z a zip just made -/
theorem zl_call {Q : Value → Shared → Prop} (Z : ZipSep2 z TI TO i1 i2 fp1 fp2) (D1 : Draws prog w A.in1.in1.in1 i1 fp1 n P1 St1) (D2 : Draws prog w A.in1.in1.in1 i2 fp2 n P2 St2)
    (l1 : ∀ b ∈ fp1, b < s.heap.objs.size) (l2 : ∀ b ∈ fp2, b < s.heap.objs.size) (hn : n ≤ sizeLine)
    (hz : IsZip s.heap z TI TO .none) (hTO : IsTupOf2 s.heap TO .none .none) (hTI : IsTupOf2 s.heap TI (.ref i1) (.ref i2)) (st1 : St1 0 s.heap) (st2 : St2 0 s.heap)
    (hQ : ∀ h' tk acc c as, (∀ b o, b ≠ z → b ≠ TO → b ≠ i1 → b ≠ i2 → s.heap.get? b = some o → h'.get? b = some o) → h'.get? s.heap.objs.size = some { cls := .type "list", dict := none, data := .seq acc c, slots := #[] } → as.length = n → ZG P1 P2 s.heap.objs.size h' as →
      acc.toList = as.map Value.ref → Q (.ref s.heap.objs.size) { s with heap := h', toks := tk }) :
    wpAny (model prog w) A (call (.type "list") [.ref z]) Q E s := by
  refine callType_codes (Q₁ := fun obj s₁ => obj = .ref s.heap.objs.size ∧ s₁ = { s with heap := s.heap.push { cls := .type "list", data := .seq #[] } }) F.called_list (F.typeCall_list_1 _) F.entry_list_init
    (code_list_new _ ⟨rfl, rfl⟩) fun obj s₁ h₁ => ?_
  obtain ⟨rfl, rfl⟩ := h₁
  have hS : (s.heap.push { cls := .type "list", data := .seq #[] }).get? s.heap.objs.size = some { cls := .type "list", data := .seq #[] } := Heap.get?_push_size _ rfl
  refine ⟨⟨_, hS, rfl⟩, F.args_list_init_2 _ _, zl_init (A := A.in1) s.heap.objs.size Z D1 D2 (Heap.lt_size hz) (Heap.lt_size hTI) (Heap.lt_size hTO) l1 l2 hn (Heap.get?_push_of_some _ hz) (Heap.get?_push_of_some _ hTO) (Heap.get?_push_of_some _ hTI)
    (D1.frame _ _ _ st1 fun b _ o e => Heap.get?_push_of_some _ e) (D2.frame _ _ _ st2 fun b _ o e => Heap.get?_push_of_some _ e) hS fun h' tk acc c as hk hS' hl hG hacc => ?_⟩
  exact ⟨rfl, hQ h' tk acc c as (fun b o b2 b3 b4 b5 e => hk b o (Nat.ne_of_lt (Heap.lt_size e)) b2 b3 b4 b5 (Heap.get?_push_of_some _ e)) hS' hl hG hacc⟩
end


end My
namespace My
open PySem PySem.Spec PyProof.Rows L2 TL
/-! ### list(zip(a tuple, a list)) and for .. in zip(a tuple, a list), as rules -/
def putP : Hp → List Addr → List (V × V) → Hp
  | H, a :: as, p :: ps => putP (upd H a (.tup [p.1, p.2])) as ps
  | H, _, _ => H
theorem putP_off {b : Addr} : ∀ (as : List Addr) (ps : List (V × V)) (H : Hp), b ∉ as → putP H as ps b = H b
  | [], _, _, _ => rfl
  | _ :: _, [], _, _ => rfl
  | a :: as, p :: ps, H, h => by
    show putP (upd H a (.tup [p.1, p.2])) as ps b = H b
    rw [putP_off as ps _ (fun z => h (List.mem_cons_of_mem _ z)), upd_ne (fun z => h (by rw [z]; exact List.mem_cons_self))]
theorem putP_at : ∀ (as : List Addr) (ps : List (V × V)) (H : Hp), as.length = ps.length → as.Nodup → ∀ (j : Nat) (a : Addr) (p : V × V), as[j]? = some a → ps[j]? = some p → putP H as ps a = some (.tup [p.1, p.2])
  | [], _, _, _, _, j, a, p, h, _ => by simp at h
  | _ :: _, [], _, h, _, _, _, _, _, _ => by cases h
  | a :: as, p :: ps, H, h, hn, 0, b, q, h1, h2 => by
    have hn' := List.nodup_cons.mp hn
    cases h1
    cases h2
    show putP (upd H a (.tup [p.1, p.2])) as ps a = _
    rw [putP_off as ps _ hn'.1, upd_same]
  | a :: as, p :: ps, H, h, hn, j + 1, b, q, h1, h2 => by
    have hn' := List.nodup_cons.mp hn
    exact putP_at as ps (upd H a (.tup [p.1, p.2])) (Nat.succ.inj h) hn'.2 j b q h1 h2
section
variable {X : Cx}
theorem zip_laid {pins : List (Addr × Obj)} {σ : L2.St} {H : Hp} {s : Shared} {h' : Heap} {tk : Nat} {xs ys : List V} {its its2 : List Value} {acc : Array Value} {c : Nat} {as : List Addr} {S : Addr} (I : Inv X pins σ H s) (rv : Vals xs its) (rv2 : Vals ys its2) (hl : xs.length = ys.length)
    (hz : xs.length ≤ sizeLine) (hS0 : s.heap.objs.size ≤ S) (hk : ∀ b o, s.heap.get? b = some o → h'.get? b = some o) (hS : h'.get? S = some { cls := .type "list", dict := none, data := .seq acc c, slots := #[] }) (hla : as.length = xs.length)
    (hG : ZG (fun i v => its.toArray[i]? = some v) (fun i v => its2.toArray[i]? = some v) S h' as) (hacc : acc.toList = as.map Value.ref) :
    ∃ H' : Hp, Same H H' ∧ H' S = some (.lst (as.map V.ref)) ∧ (∀ (i : Nat) (p : Addr) (x y : V), as[i]? = some p → xs[i]? = some x → ys[i]? = some y → H' p = some (.tup [x, y])) ∧ Inv X pins σ H' { s with heap := h', toks := tk } := by
  have hSn : S ∉ as := fun z => Nat.lt_irrefl _ (hG.above _ z)
  have nd : as.Nodup := List.Pairwise.imp (fun {a b} (h : a < b) => Nat.ne_of_lt h) hG.rise
  have new : ∀ t ∈ as, H t = none := fun t ht => I.hok.fresh (Nat.le_trans hS0 (Nat.le_of_lt (hG.above t ht)))
  have newS : H S = none := I.hok.fresh hS0
  have lz : as.length = (xs.zip ys).length := by rw [List.length_zip]; omega
  have atP := putP_at as (xs.zip ys) (upd H S (.lst (as.map V.ref))) lz nd
  have off : ∀ b, b ∉ as → b ≠ S → putP (upd H S (.lst (as.map V.ref))) as (xs.zip ys) b = H b := fun b h1 h2 => by rw [putP_off as _ _ h1, upd_ne h2]
  have low : ∀ b o, s.heap.get? b = some o → b ∉ as ∧ b ≠ S := fun b o e => ⟨fun z => absurd (Heap.lt_size e) (Nat.not_lt.mpr (Nat.le_trans hS0 (Nat.le_of_lt (hG.above b z)))), Nat.ne_of_lt (Nat.lt_of_lt_of_le (Heap.lt_size e) hS0)⟩
  have kp : ∀ b u, H b = some u → (putP (upd H S (.lst (as.map V.ref))) as (xs.zip ys)) b = some u := fun b u e => by
    rw [off b (fun z => by rw [new b z] at e; cases e) (fun z => by rw [z, newS] at e; cases e)]
    exact e
  have eS : putP (upd H S (.lst (as.map V.ref))) as (xs.zip ys) S = some (.lst (as.map V.ref)) := by rw [putP_off as _ _ hSn, upd_same]
  refine ⟨putP (upd H S (.lst (as.map V.ref))) as (xs.zip ys), kp, eS, fun i p x y e1 e2 e3 => atP i p (x, y) e1 (List.getElem?_zip_eq_some.mpr ⟨e2, e3⟩), ?_⟩
  refine I.call' (ch := []) rfl ⟨fun b o q _ _ _ => hk b o q, fun b o q _ _ _ => ⟨o.slots, hk b o q⟩, fun b o q n _ => ?_, fun b o q _ => ⟨o, hk b o q⟩, fun b xs q => kp b _ q, fun b o u q => kp b _ q, fun b ps q => ⟨#[], by rw [kp b _ q]; simp⟩⟩ (fun b u q => ?_) I.bare fun b z => by simp at z
  · obtain ⟨z1, z2⟩ := low b o q
    rw [off b z1 z2]
    exact n
  · by_cases hb : b ∈ as
    · obtain ⟨j, hj⟩ := List.mem_iff_getElem?.mp hb
      have jl : j < as.length := (List.getElem?_eq_some_iff.mp hj).1
      have hx : xs[j]? = some xs[j] := List.getElem?_eq_getElem (by omega)
      have hy : ys[j]? = some ys[j] := List.getElem?_eq_getElem (by omega)
      have e3 := atP j b (xs[j], ys[j]) hj (List.getElem?_zip_eq_some.mpr ⟨hx, hy⟩)
      rw [e3] at q
      cases q
      obtain ⟨u, v, f1, f2, f3⟩ := hG.pairs j b hj
      obtain ⟨u', g1, r1⟩ := rv.get hx
      obtain ⟨v', g2, r2⟩ := rv2.get hy
      have eu : u' = u := by
        have : its.toArray[j]? = some u' := by simpa using g1
        rw [this] at f1
        exact Option.some.inj f1
      have ev : v' = v := by
        have : its2.toArray[j]? = some v' := by simpa using g2
        rw [this] at f2
        exact Option.some.inj f2
      subst eu
      subst ev
      exact ⟨by show 2 ≤ sizeLine; decide, [u', v'], .cons r1 (.cons r2 .nil), ⟨_, f3, rfl, _, rfl⟩⟩
    · by_cases hb2 : b = S
      · rw [hb2] at q ⊢
        rw [eS] at q
        cases q
        refine ⟨by rw [List.length_map]; omega, acc.toList, c, by rw [hacc]; exact LiI.vals_refs as, ?_⟩
        rw [Array.toArray_toList]
        exact hS
      · rw [off b hb hb2] at q
        exact (I.hok b u q).stay (fun d v _ y => hk d v y) (fun d y => kp d _ y) fun d xs y => kp d _ y
def rLZip (K : PySem.W.Frag) (vs : List V) (H1 : Hp) (Q : VK) : Prop := ∃ (a b : Addr) (xs ys : List V), vs = [.ref a, .ref b] ∧ SqT K H1 a xs ∧ SqL K H1 b ys ∧ xs.length = ys.length ∧ xs.length ≤ 100 ∧
      ∀ (l : Addr) (ps : List Addr) H2, Same H1 H2 → H2 l = some (.lst (ps.map V.ref)) → ps.length = xs.length → (∀ (i : Nat) (p : Addr) (x y : V), ps[i]? = some p → xs[i]? = some x → ys[i]? = some y → H2 p = some (.tup [x, y])) → Q (.ref l) H2
theorem fp_below {N a : Addr} (h : a < N) : ∀ b ∈ [a], b < N := fun b hb => by rw [List.mem_singleton.mp hb]; exact h
theorem pe_listzip {e e2 : Expr} {t : TA} {p q pos pos2 : Pos} (hc : X.calm = true) (hl : Gl X "list") (hm : X.mg "list" = none) (hg : Gl X "zip") (hm2 : X.mg "zip" = none) (ha : PA X [e, e2] t)
    (hs : starEach [.Call (.Name "zip" q) [e, e2] [] pos2] X.env = (false, eval (.Call (.Name "zip" q) [e, e2] [] pos2) X.env) :: starEach [] X.env := by rfl)
    (hs2 : starEach [e, e2] X.env = (false, eval e X.env) :: starEach [e2] X.env := by rfl) (hpl : (backTo pos2 (starEach [e2] X.env)).any (·.1) = false := by rfl) :
    PE X (.Call (.Name "list" p) [.Call (.Name "zip" q) [e, e2] [] pos2] [] pos) (fun σ H Q => t σ H fun vs H1 => rLZip X.K vs H1 Q) := by
  refine ⟨fun pins s σ H Q I h => ?_⟩
  refine wpAny_Call_Name_kw (ld_blt I hl hm boot_list ?_)
  refine PyProof.Rows.callWith_type1 ?_ hs rfl
  rw [hs]
  show wpAny _ _ (spliced ((false, eval (.Call (.Name "zip" q) [e, e2] [] pos2) X.env) :: backTo pos (starEach [] X.env))) _ _ s
  refine Calls.spliced_cons ?_
  refine Call_ (ld_blt I hg hm2 PyProof.Rows.boot_zip (PyProof.Rows.callWith_type1 (thn (ha.run pos2 pins s σ H _ I h) fun us s1 ⟨vs, H1, I1, r1, q1⟩ => ?_) hs2 hpl))
  obtain ⟨a, b, xs, ys, ex, hqx, hqy, hlen, h100, q1⟩ := q1
  subst ex
  cases r1 with
  | cons r rr =>
    cases rr with
    | cons r' rr =>
      cases rr
      cases r
      cases r'
      obtain ⟨its, rv, p1, _⟩ := I1.tuple hqx
      obtain ⟨its2, rv2, p2, _⟩ := I1.list hqy
      have la : a < s1.heap.objs.size := let ⟨_, e, _⟩ := p1; Heap.lt_size e
      have lb : b < s1.heap.objs.size := p2.lt
      refine zip_begins2 (begins_tuple a its.toArray) (begins_list b its2.toArray) p1 p2.isList fun h' hz hTI hTO g1 g2 hsz hk => ?_
      refine Calls.spliced_nil ?_
      have hd := I1.ok.hd hc
      have n1 : its.toArray.size = xs.length := by rw [List.size_toArray, ← rv.length]
      have n2 : its2.toArray.size = xs.length := by rw [List.size_toArray, ← rv2.length, hlen]
      have D1 : Draws X.prog X.w X.A.in1.in1.in1 s1.heap.objs.size [s1.heap.objs.size, a] xs.length (fun i v => its.toArray[i]? = some v) (fun i h => h.IsTupleIter s1.heap.objs.size a i ∧ h.IsTuple a its.toArray) := n1 ▸ Draws.tuple (A := X.A.in1.in1.in1) hd s1.heap.objs.size a (Nat.ne_of_lt la) its.toArray
      have D2 : Draws X.prog X.w X.A.in1.in1.in1 (s1.heap.objs.size + 1) [s1.heap.objs.size + 1, b] xs.length (fun i v => its2.toArray[i]? = some v) (fun i h => h.IsListIter (s1.heap.objs.size + 1) b i ∧ h.IsList b its2.toArray) := n2 ▸ Draws.list (A := X.A.in1.in1.in1) hd (s1.heap.objs.size + 1) b (Nat.ne_of_lt (Nat.lt_succ_of_lt lb)) its2.toArray
      have Z := zip_sep2 (N := s1.heap.objs.size) (fp_below la) (fp_below lb)
      have big : ∀ {c k : Nat}, c < s1.heap.objs.size + 2 → c < h'.objs.size := fun {c k} e => by rw [hsz]; omega
      have low1 : ∀ c ∈ [s1.heap.objs.size, a], c < h'.objs.size := fun c hc => by
        rcases List.mem_cons.mp hc with e | e
        · rw [e, hsz]; exact Nat.lt_add_of_pos_right (by decide)
        · rw [List.mem_singleton.mp e, hsz]; exact Nat.lt_of_lt_of_le la (Nat.le_add_right _ _)
      have low2 : ∀ c ∈ [s1.heap.objs.size + 1, b], c < h'.objs.size := fun c hc => by
        rcases List.mem_cons.mp hc with e | e
        · rw [e, hsz]; exact Nat.add_lt_add_left (by decide) _
        · rw [List.mem_singleton.mp e, hsz]; exact Nat.lt_of_lt_of_le lb (Nat.le_add_right _ _)
      refine zl_call (s := { s1 with heap := h' }) Z D1 D2 low1 low2 (Nat.le_trans h100 (by decide)) hz hTO hTI ⟨⟨_, g1, rfl, rfl⟩, Heap.IsTuple.at p1 fun o e => hk a o e⟩ ⟨⟨_, g2, rfl, rfl⟩, p2.isList.at fun o e => hk b o e⟩ fun h2 tk acc c as hk2 hS hla hG hacc => ?_
      have hk3 : ∀ c o, s1.heap.get? c = some o → h2.get? c = some o := fun c o e => by
        have lt := Heap.lt_size e
        exact hk2 c o (Nat.ne_of_lt (Nat.lt_of_lt_of_le lt (Nat.le_add_right _ _))) (Nat.ne_of_lt (Nat.lt_of_lt_of_le lt (Nat.le_add_right _ _))) (Nat.ne_of_lt lt) (Nat.ne_of_lt (Nat.lt_of_lt_of_le lt (Nat.le_add_right _ _))) (hk c o e)
      obtain ⟨H', sm, hl', tup, J⟩ := zip_laid (tk := tk) (S := h'.objs.size) I1 rv rv2 hlen (Nat.le_trans h100 (by decide)) (by rw [hsz]; exact Nat.le_add_right _ _) hk3 hS hla hG hacc
      exact ⟨.ref _, H', J, rfl, q1 _ as H' sm hl' hla tup⟩
end
section
/-- the tuple at a and the list at b as they stand at each turn, the items in new pairs -/
def ItzM (K : PySem.W.Frag) (a b : Addr) : It :=
  ⟨fun i H => ∃ (xs ys : List V) (x y : V), SqT K H a xs ∧ SqL K H b ys ∧ xs[i]? = some x ∧ ys[i]? = some y ∧ xs.length = ys.length,
    fun i H v H' => ∃ T x y, v = .ref T ∧ H T = none ∧ H' = upd H T (.tup [x, y]) ∧ (∀ xs, SqT K H a xs → xs[i]? = some x) ∧ ∀ ys, SqL K H b ys → ys[i]? = some y,
    fun i H => ∃ xs ys : List V, SqT K H a xs ∧ SqL K H b ys ∧ xs.length = i ∧ ys.length = i⟩
theorem turn_zipM {P : Program} {w : World} {K : PySem.W.Frag} {elts : List Expr} {kk : Nat} {tpos : Pos} {a b z TI TO i1 i2 : Addr} (D : ZipSep2 z TI TO i1 i2 [i1, a] [i2, b]) :
    Turn P w K (.Tuple elts kk tpos) (ItzM K a b) [z, TI, TO, i1, i2] z (fun i h => IsZip h z TI TO .none ∧ IsTupOf2 h TI (.ref i1) (.ref i2) ∧ (∃ x y, IsTupOf2 h TO x y) ∧ h.IsTupleIter i1 a i ∧ h.IsListIter i2 b i) where
  mem := by simp
  obj := fun i h st c hc => by
    obtain ⟨hz, hTI, ⟨x, y, hTO⟩, ⟨o1, e1, _, d1⟩, ⟨o2, e2, _, d2⟩⟩ := st
    have e' : c = z ∨ c = TI ∨ c = TO ∨ c = i1 ∨ c = i2 := by simpa using hc
    rcases e' with q | q | q | q | q
    · rw [q]; exact ⟨_, hz, fun v q => nomatch q⟩
    · rw [q]; exact ⟨_, hTI, fun v q => nomatch q⟩
    · rw [q]; exact ⟨_, hTO, fun v q => nomatch q⟩
    · rw [q]; exact ⟨o1, e1, fun v q => by rw [d1] at q; cases q⟩
    · rw [q]; exact ⟨o2, e2, fun v q => by rw [d2] at q; cases q⟩
  keep := fun i h h' st k => by
    obtain ⟨hz, hTI, ⟨x, y, hTO⟩, h1, h2⟩ := st
    exact ⟨k z (by simp) _ hz, k TI (by simp) _ hTI, ⟨x, y, k TO (by simp) _ hTO⟩, h1.at fun o q => k i1 (by simp) o q, h2.at fun o q => k i2 (by simp) o q⟩
  item := by
    intro X hP hw hK hc i pins s σ H E I hf st hg
    subst hP hw hK
    obtain ⟨hz, hTI, ⟨x0, y0, hTO⟩, h1, h2⟩ := st
    obtain ⟨xs, ys, x, y, hqx, hqy, hx, hy, hlen⟩ := hg
    obtain ⟨its, rv, p, _⟩ := I.tuple hqx
    obtain ⟨its2, rv2, p2, _⟩ := I.list hqy
    obtain ⟨u, hu, ru⟩ := rv.get hx
    obtain ⟨u2, hu2, ru2⟩ := rv2.get hy
    have hzl : z < s.heap.objs.size := Heap.lt_size hz
    have hd := I.ok.hd hc
    have n1 : i < its.toArray.size := by rw [List.size_toArray]; exact (List.getElem?_eq_some_iff.mp hu).1
    have n2 : i < its2.toArray.size := by rw [List.size_toArray]; exact (List.getElem?_eq_some_iff.mp hu2).1
    have na : a ≠ i1 := fun e => D.sep1_2 (by
      exfalso
      obtain ⟨o1, e1, c1, _⟩ := h1
      obtain ⟨o2, e2, c2, _⟩ := id p
      rw [e, e1] at e2
      cases e2
      rw [c1] at c2
      exact absurd c2 (by decide))
    have nb : b ≠ i2 := fun e => by
      obtain ⟨o1, e1, c1, _⟩ := h2
      obtain ⟨o2, e2, c2, _⟩ := id p2.isList
      rw [e, e1] at e2
      cases e2
      rw [c1] at c2
      exact absurd c2 (by decide)
    refine wpAny_pyNext_zipD2_item D (Draws.tuple (A := X.A.in1) hd i1 a na its.toArray) (Draws.list (A := X.A.in1) hd i2 b nb its2.toArray) hz hTI hTO ⟨h1, p⟩ ⟨h2, p2.isList⟩ n1 n2 fun v1 v2 h' tk f1 f2 z' TO' s1' s2' hT hsz hk => ?_
    have e1 : v1 = u := by
      have e : its.toArray[i]? = some u := by simpa using hu
      rw [e] at f1
      exact (Option.some.inj f1).symm
    have e2 : v2 = u2 := by
      have e : its2.toArray[i]? = some u2 := by simpa using hu2
      rw [e] at f2
      exact (Option.some.inj f2).symm
    subst e1
    subst e2
    obtain ⟨h1', _⟩ := s1'
    obtain ⟨h2', _⟩ := s2'
    refine ⟨_, rfl, wpAny_letOwnedTupleGo_zip (s := { s with heap := h', toks := tk }) z' fun h'' z'' sb => ?_⟩
    have hT2 : h''.get? s.heap.objs.size = some { cls := .type "tuple", data := .seq #[v1, v2] } := (sb.2 _ (Nat.ne_of_gt hzl)).trans hT
    have new : ObjOk X.prog X.w (upd H s.heap.objs.size (.tup [x, y])) h'' s.heap.objs.size (.tup [x, y]) :=
      ⟨by show 2 ≤ sizeLine; decide, [v1, v2], .cons ru (.cons ru2 .nil), ⟨_, hT2, rfl, _, rfl⟩⟩
    have I1 : Inv X pins σ (upd H s.heap.objs.size (.tup [x, y])) { s with heap := h'', toks := tk } :=
      I.turnedNew (t' := tk) (ch := [z, TI, TO, i1, i2]) (fun c o hb q => (sb.2 c (fun q' => hb (by simp [q']))).trans (hk c o (fun q' => hb (by simp [q'])) (fun q' => hb (by simp [q'])) (fun q' => hb (by simp [q'])) (fun q' => hb (by simp [q'])) q)) hf (Nat.le_refl _) new
    refine ⟨.ref s.heap.objs.size, _, I1, rfl, ⟨_, x, y, rfl, I.hok.fresh (Nat.le_refl _), rfl, fun l hl => by rw [I.tuple_inj hl hqx]; exact hx, fun l hl => by rw [I.list_inj hl hqy]; exact hy⟩, ⟨z'', ?_, ⟨v1, v2, ?_⟩, ?_, ?_⟩, fun c hcm => ?_⟩
    · exact (sb.2 _ D.TIz).trans (hk _ _ D.TIz D.TITO D.TIi1 D.TIi2 hTI)
    · exact (sb.2 _ D.TOz).trans TO'
    · exact h1'.at fun o q => (sb.2 _ (Ne.symm D.zi1)).trans q
    · exact h2'.at fun o q => (sb.2 _ (Ne.symm D.zi2)).trans q
    · have hlt : c < s.heap.objs.size := by
        have e' : c = z ∨ c = TI ∨ c = TO ∨ c = i1 ∨ c = i2 := by simpa using hcm
        rcases e' with q | q | q | q | q
        · rw [q]; exact hzl
        · rw [q]; exact Heap.lt_size hTI
        · rw [q]; exact Heap.lt_size hTO
        · rw [q]; obtain ⟨_, e1, _⟩ := h1; exact Heap.lt_size e1
        · rw [q]; obtain ⟨_, e2, _⟩ := h2; exact Heap.lt_size e2
      rw [upd_ne (Nat.ne_of_lt hlt)]
      exact (hf c hcm).1
  done := by
    intro X hP hw hK hc i pins s σ H E I hf st hg
    subst hP hw hK
    obtain ⟨hz, hTI, ⟨x0, y0, hTO⟩, h1, h2⟩ := st
    obtain ⟨xs, ys, hqx, hqy, e1, e2⟩ := hg
    obtain ⟨its, rv, p, _⟩ := I.tuple hqx
    obtain ⟨its2, rv2, p2, _⟩ := I.list hqy
    have l1 := rv.length
    have l2 := rv2.length
    have hd := I.ok.hd hc
    have na : a ≠ i1 := fun e => by
      obtain ⟨o1, e1, c1, _⟩ := h1
      obtain ⟨o2, e2, c2, _⟩ := id p
      rw [e, e1] at e2
      cases e2
      rw [c1] at c2
      exact absurd c2 (by decide)
    have nb : b ≠ i2 := fun e => by
      obtain ⟨o1, e1, c1, _⟩ := h2
      obtain ⟨o2, e2, c2, _⟩ := id p2.isList
      rw [e, e1] at e2
      cases e2
      rw [c1] at c2
      exact absurd c2 (by decide)
    have q1 : i = its.toArray.size := by rw [List.size_toArray]; omega
    have q2 : i = its2.toArray.size := by rw [List.size_toArray]; omega
    exact wpAny_pyNext_zipD2_end D (Draws.tuple (A := X.A.in1) hd i1 a na its.toArray) (Draws.list (A := X.A.in1) hd i2 b nb its2.toArray) hz hTI hTO ⟨h1, p⟩ ⟨h2, p2.isList⟩ (Nat.le_of_eq q1) (Nat.le_of_eq q2) (.inl q1) fun h' tk hk => ⟨rfl, I.turnedL (t' := tk) (ch := [z, TI, TO, i1, i2]) (fun c o hb q =>
      hk c o (fun q' => hb (by simp [q'])) (fun q' => hb (by simp [q'])) (fun q' => hb (by simp [q'])) (fun q' => hb (by simp [q'])) q) hf⟩
  self := fun A i s Q E st h => wpAny_pyIter_zip st.1 h
def iZipM (K : PySem.W.Frag) (ta : TA) : TI := fun σ H R => ta σ H fun vs H1 => ∃ a b xs ys, vs = [.ref a, .ref b] ∧ SqT K H1 a xs ∧ SqL K H1 b ys ∧ R (ItzM K a b) H1
theorem pi_zipM {X : Cx} {e e2 : Expr} {ta : TA} {p pos tpos : Pos} {elts : List Expr} {kk : Nat} (hg : Gl X "zip") (hm : X.mg "zip" = none) (ha : PA X [e, e2] ta)
    (hs : starEach [e, e2] X.env = (false, eval e X.env) :: starEach [e2] X.env := by rfl) (hpl : (backTo pos (starEach [e2] X.env)).any (·.1) = false := by rfl) :
    PI X (.Tuple elts kk tpos) (.Call (.Name "zip" p) [e, e2] [] pos) (iZipM X.K ta) := by
  refine ⟨fun pins s σ H R I h => ?_⟩
  refine Call_ (ld_blt I hg hm PyProof.Rows.boot_zip (PyProof.Rows.callWith_type1 (thn (ha.run pos pins s σ H _ I h) fun us s1 ⟨vs, H1, I1, r1, q1⟩ => ?_) hs hpl))
  obtain ⟨a, b, xs, ys, ex, hqx, hqy, q⟩ := q1
  subst ex
  cases r1 with
  | cons r rr =>
    cases rr with
    | cons r' rr =>
      cases rr
      cases r
      cases r'
      have fresh5 : ∀ c, c ∈ [s1.heap.objs.size + 4, s1.heap.objs.size + 2, s1.heap.objs.size + 3, s1.heap.objs.size, s1.heap.objs.size + 1] → FpOk X pins H1 c := fun c hcm => by
        have e' : c = s1.heap.objs.size + 4 ∨ c = s1.heap.objs.size + 2 ∨ c = s1.heap.objs.size + 3 ∨ c = s1.heap.objs.size ∨ c = s1.heap.objs.size + 1 := by simpa using hcm
        have hle : s1.heap.objs.size ≤ c := by
          rcases e' with z | z | z | z | z
          · rw [z]; exact Nat.le_add_right _ _
          · rw [z]; exact Nat.le_add_right _ _
          · rw [z]; exact Nat.le_add_right _ _
          · rw [z]; exact Nat.le_refl _
          · rw [z]; exact Nat.le_add_right _ _
        exact I1.fpOk hle (I1.hok.fresh hle)
      obtain ⟨its, rv, p1, _⟩ := I1.tuple hqx
      obtain ⟨its2, rv2, p2, _⟩ := I1.list hqy
      have la : a < s1.heap.objs.size := let ⟨_, e, _⟩ := p1; Heap.lt_size e
      refine zip_begins2 (begins_tuple a its.toArray) (begins_list b its2.toArray) p1 p2.isList fun h' hz hTI hTO g1 g2 hsz hk => wpAny_pyIter_zip hz ?_
      have I2 : Inv X pins σ H1 { s1 with heap := h' } := I1.kept (t' := s1.toks) hk
      exact ⟨s1.heap.objs.size + 4, [s1.heap.objs.size + 4, s1.heap.objs.size + 2, s1.heap.objs.size + 3, s1.heap.objs.size, s1.heap.objs.size + 1], _, _, H1, rfl, I2, turn_zipM (zip_sep2 (fp_below la) (fp_below p2.lt)), ⟨hz, hTI, ⟨_, _, hTO⟩, ⟨_, g1, rfl, rfl⟩, ⟨_, g2, rfl, rfl⟩⟩, fresh5, q⟩
/-- a loop over zip of a tuple and a list of one length -/
theorem for_zipM {K : PySem.W.Frag} {a b : Addr} {xs ys : List V} {g : TG} {tb : TS} {D : Ends} {σ : L2.St} {H : Hp} (hl : xs.length = ys.length) (Pv : Nat → L2.St → Hp → Prop) (h0 : Pv 0 σ H) (hq : ∀ i σ H, Pv i σ H → SqT K H a xs ∧ SqL K H b ys)
    (hs : ∀ (i : Nat) (x y : V) (T : Addr) (σ : L2.St) (H : Hp), xs[i]? = some x → ys[i]? = some y → Pv i σ H → H T = none → g (.ref T) σ (upd H T (.tup [x, y])) fun σ2 H2 => tb { D with nx := Pv (i + 1), ct := Pv (i + 1), bk := D.nx } σ2 H2) (hd : ∀ σ H, Pv xs.length σ H → D.nx σ H) :
    ∃ W : Nat → Nat → L2.St → Hp → Prop, (∃ m, W 0 m σ H) ∧ ∀ i m σ H, W i m σ H →
      ((ItzM K a b).stop i H ∧ D.nx σ H) ∨ ((ItzM K a b).go i H ∧ ∃ N : L2.St → Hp → Prop, (∀ σ' H', N σ' H' → ∃ m', m' < m ∧ W (i + 1) m' σ' H') ∧ ∀ v H', (ItzM K a b).yld i H v H' → g v σ H' fun σ2 H2 => tb { D with nx := N, ct := N, bk := D.nx } σ2 H2) := by
  refine ⟨fun i m σ H => m = xs.length - i ∧ i ≤ xs.length ∧ Pv i σ H, ⟨xs.length, rfl, Nat.zero_le _, h0⟩, ?_⟩
  rintro i m σ H ⟨rfl, hi, p⟩
  obtain ⟨qx, qy⟩ := hq i σ H p
  by_cases hlt : i < xs.length
  · have hx : xs[i]? = some xs[i] := List.getElem?_eq_getElem hlt
    have hlt2 : i < ys.length := by omega
    have hy : ys[i]? = some ys[i] := List.getElem?_eq_getElem hlt2
    refine .inr ⟨⟨xs, ys, _, _, qx, qy, hx, hy, hl⟩, Pv (i + 1), fun σ' H' p' => ⟨xs.length - (i + 1), by omega, rfl, hlt, p'⟩, fun v H' y => ?_⟩
    obtain ⟨T, x', y', rfl, hT, rfl, f1, f2⟩ := y
    exact hs i x' y' T σ H (f1 xs qx) (f2 ys qy) p hT
  · have e : i = xs.length := by omega
    subst e
    exact .inl ⟨⟨xs, ys, qx, qy, rfl, hl.symm⟩, hd σ H p⟩
end

/-! ### list(zip(list, list)) -/
def rLZipL (K : PySem.W.Frag) (vs : List V) (H1 : Hp) (Q : VK) : Prop := ∃ (a b : Addr) (xs ys : List V), vs = [.ref a, .ref b] ∧ SqL K H1 a xs ∧ SqL K H1 b ys ∧ xs.length = ys.length ∧ xs.length ≤ 100 ∧
      ∀ (l : Addr) (ps : List Addr) H2, Same H1 H2 → H2 l = some (.lst (ps.map V.ref)) → ps.length = xs.length → (∀ (i : Nat) (p : Addr) (x y : V), ps[i]? = some p → xs[i]? = some x → ys[i]? = some y → H2 p = some (.tup [x, y])) → Q (.ref l) H2
section
variable {X : Cx}
theorem pe_listzipL {e e2 : Expr} {t : TA} {p q pos pos2 : Pos} (hc : X.calm = true) (hl : Gl X "list") (hm : X.mg "list" = none) (hg : Gl X "zip") (hm2 : X.mg "zip" = none) (ha : PA X [e, e2] t)
    (hs : starEach [.Call (.Name "zip" q) [e, e2] [] pos2] X.env = (false, eval (.Call (.Name "zip" q) [e, e2] [] pos2) X.env) :: starEach [] X.env := by rfl)
    (hs2 : starEach [e, e2] X.env = (false, eval e X.env) :: starEach [e2] X.env := by rfl) (hpl : (backTo pos2 (starEach [e2] X.env)).any (·.1) = false := by rfl) :
    PE X (.Call (.Name "list" p) [.Call (.Name "zip" q) [e, e2] [] pos2] [] pos) (fun σ H Q => t σ H fun vs H1 => rLZipL X.K vs H1 Q) := by
  refine ⟨fun pins s σ H Q I h => ?_⟩
  refine wpAny_Call_Name_kw (ld_blt I hl hm boot_list ?_)
  refine PyProof.Rows.callWith_type1 ?_ hs rfl
  rw [hs]
  show wpAny _ _ (spliced ((false, eval (.Call (.Name "zip" q) [e, e2] [] pos2) X.env) :: backTo pos (starEach [] X.env))) _ _ s
  refine Calls.spliced_cons ?_
  refine Call_ (ld_blt I hg hm2 PyProof.Rows.boot_zip (PyProof.Rows.callWith_type1 (thn (ha.run pos2 pins s σ H _ I h) fun us s1 ⟨vs, H1, I1, r1, q1⟩ => ?_) hs2 hpl))
  obtain ⟨a, b, xs, ys, ex, hqx, hqy, hlen, h100, q1⟩ := q1
  subst ex
  cases r1 with
  | cons r rr =>
    cases rr with
    | cons r' rr =>
      cases rr
      cases r
      cases r'
      obtain ⟨its, rv, p1, _⟩ := I1.list hqx
      obtain ⟨its2, rv2, p2, _⟩ := I1.list hqy
      have la : a < s1.heap.objs.size := p1.lt
      have lb : b < s1.heap.objs.size := p2.lt
      refine zip_begins2 (begins_list a its.toArray) (begins_list b its2.toArray) p1.isList p2.isList fun h' hz hTI hTO g1 g2 hsz hk => ?_
      refine Calls.spliced_nil ?_
      have hd := I1.ok.hd hc
      have n1 : its.toArray.size = xs.length := by rw [List.size_toArray, ← rv.length]
      have n2 : its2.toArray.size = xs.length := by rw [List.size_toArray, ← rv2.length, hlen]
      have D1 : Draws X.prog X.w X.A.in1.in1.in1 s1.heap.objs.size [s1.heap.objs.size, a] xs.length (fun i v => its.toArray[i]? = some v) (fun i h => h.IsListIter s1.heap.objs.size a i ∧ h.IsList a its.toArray) := n1 ▸ Draws.list (A := X.A.in1.in1.in1) hd s1.heap.objs.size a (Nat.ne_of_lt la) its.toArray
      have D2 : Draws X.prog X.w X.A.in1.in1.in1 (s1.heap.objs.size + 1) [s1.heap.objs.size + 1, b] xs.length (fun i v => its2.toArray[i]? = some v) (fun i h => h.IsListIter (s1.heap.objs.size + 1) b i ∧ h.IsList b its2.toArray) := n2 ▸ Draws.list (A := X.A.in1.in1.in1) hd (s1.heap.objs.size + 1) b (Nat.ne_of_lt (Nat.lt_succ_of_lt lb)) its2.toArray
      have Z := zip_sep2 (N := s1.heap.objs.size) (fp_below la) (fp_below lb)
      have big : ∀ {c k : Nat}, c < s1.heap.objs.size + 2 → c < h'.objs.size := fun {c k} e => by rw [hsz]; omega
      have low1 : ∀ c ∈ [s1.heap.objs.size, a], c < h'.objs.size := fun c hc => by
        rcases List.mem_cons.mp hc with e | e
        · rw [e, hsz]; exact Nat.lt_add_of_pos_right (by decide)
        · rw [List.mem_singleton.mp e, hsz]; exact Nat.lt_of_lt_of_le la (Nat.le_add_right _ _)
      have low2 : ∀ c ∈ [s1.heap.objs.size + 1, b], c < h'.objs.size := fun c hc => by
        rcases List.mem_cons.mp hc with e | e
        · rw [e, hsz]; exact Nat.add_lt_add_left (by decide) _
        · rw [List.mem_singleton.mp e, hsz]; exact Nat.lt_of_lt_of_le lb (Nat.le_add_right _ _)
      refine zl_call (s := { s1 with heap := h' }) Z D1 D2 low1 low2 (Nat.le_trans h100 (by decide)) hz hTO hTI ⟨⟨_, g1, rfl, rfl⟩, p1.isList.at fun o e => hk a o e⟩ ⟨⟨_, g2, rfl, rfl⟩, p2.isList.at fun o e => hk b o e⟩ fun h2 tk acc c as hk2 hS hla hG hacc => ?_
      have hk3 : ∀ c o, s1.heap.get? c = some o → h2.get? c = some o := fun c o e => by
        have lt := Heap.lt_size e
        exact hk2 c o (Nat.ne_of_lt (Nat.lt_of_lt_of_le lt (Nat.le_add_right _ _))) (Nat.ne_of_lt (Nat.lt_of_lt_of_le lt (Nat.le_add_right _ _))) (Nat.ne_of_lt lt) (Nat.ne_of_lt (Nat.lt_of_lt_of_le lt (Nat.le_add_right _ _))) (hk c o e)
      obtain ⟨H', sm, hl', tup, J⟩ := zip_laid (tk := tk) (S := h'.objs.size) I1 rv rv2 hlen (Nat.le_trans h100 (by decide)) (by rw [hsz]; exact Nat.le_add_right _ _) hk3 hS hla hG hacc
      exact ⟨.ref _, H', J, rfl, q1 _ as H' sm hl' hla tup⟩
end


end My
namespace My
open PySem PySem.Spec PyProof.Rows L2 TL
/-! ### an own class made without the arguments that have defaults -/
structure MakD (P : Program) (w : World) (K : PySem.W.Frag) (mg : Str → Option Value) (base : Heap) (C : Addr) (k : Nat) (ps : List Str) (dvs : List V) (sp : Sp) : Prop where
  ex : ∃ f fd ds, FnOk P w K mg base CX0 k f fd ps sp ∧ Mk K C f ∧ Vals dvs ds ∧ Binds K fd ps ds
section
variable {X : Cx} {x : Str} {k : Nat} {ps : List Str} {dvs : List V} {sp : Sp} {p pos : PySem.Pos} {C : Addr}
theorem pe_makeD0 (c : MakD X.prog X.w X.K X.mg X.base C k ps dvs sp) (room : Room (k + 1) X.A) (hg : Gl X x) (hm : X.mg x = some (.ref C)) (hdb : (x == ("__debug__" : Str)) = false := by decide) :
    PE X (.Call (.Name x p) [] [] pos) (tMake C sp dvs E0 tNil) := by
  obtain ⟨f, fd, ds, ok, M, v, hb⟩ := c.ex
  exact pe_make0 M ok room hg hm hb v pass0 hdb
end
/-! ### lists of flat values, of dicts, lists and tuples of data -/
def EqT (K : PySem.W.Frag) (H : Hp) (x y : V) : Prop := EqV K H 3 x y ∨ ∃ a b d e, x = .ref a ∧ y = .ref b ∧ Dp K H x d ∧ Dp K H y e ∧ d.canLay0 = true ∧ e.canLay0 = true ∧ d.depth ≤ 9 ∧ PyData.eqv d e = true
def rEqT (K : PySem.W.Frag) : R2 := fun x y H Q => EqR K H (EqT K H) x y ∧ Q (.bl true) H
theorem op_eqT {X : Cx} (hu : X.A.units + 64 < cLine) : OpR X (compareOp .Eq) (rEqT X.K) := fun pins s σ H x y v u Q I rx ry h => by
  obtain ⟨h, q⟩ := h
  have hi : (Around.in1 X.A).units = X.A.units + 1 := rfl
  refine eqR_run I (by omega) (fun x y v u f rx ry => ?_) h rx ry X.xe (EP X pins σ Q) ⟨.bl true, H, I, rfl, q⟩
  rcases f with f | ⟨a, b, d, e, rfl, rfl, hd, he, cd, ce, dp, eq⟩
  · exact eqV_run I 3 (Around.in1 X.A) (by omega) x y v u f rx ry
  · obtain ⟨as, r1⟩ := Dp.reads I d _ v hd rx
    obtain ⟨bs, r2⟩ := Dp.reads I e _ u he ry
    obtain rfl : v = .ref a := rx
    obtain rfl : u = .ref b := ry
    by_cases z : a = b
    · subst z
      exact (SeqAt.EqAt.same _).eqP
    · exact SeqAt.eqP_refs z fun E Q q => SeqAt.compareEq_reads r1 r2 cd ce (by have := Nat.min_le_left d.depth e.depth; omega) (by rw [eq]; exact q)

theorem odd_of {K : PySem.W.Frag} {C : Addr} {T : String} (hd : PySem.W.hasDictIn K C = true) (ty : PySem.W.typeIn K (.ref C) = some (.type "type")) (sb : PySem.W.subIn K (.type T) (.ref C) = some false) : PySem.W.kitOne K (.type T) (.ref C) = some false := by
  have h : (PySem.W.clsIn K C).isSome = true := by
    unfold PySem.W.hasDictIn at hd
    cases e : PySem.W.clsIn K C with
    | none => rw [e] at hd; cases hd
    | some c => rfl
  unfold PySem.W.kitOne
  have e : (Value.type T == Value.ref C) = false := by first | rfl | (apply Bool.eq_false_iff.mpr; intro z; exact Value.noConfusion (eq_of_beq z)) | simp
  rw [e]
  show (if ((PySem.W.clsIn K C).isSome && PySem.W.typeIn K (.ref C) == some (.type "type")) = true then PySem.W.subIn K (.type T) (.ref C) else none) = some false
  rw [if_pos (by rw [h, ty]; decide +kernel)]
  exact sb
theorem ni_of {K : PySem.W.Frag} {C : Addr} {T : String} (km : PySem.W.kitMeta T = true) (sb : PySem.W.subIn K (.ref C) (.type T) = some false) : PySem.W.kitOne K (.ref C) (.type T) = some false := by
  unfold PySem.W.kitOne
  have e : (Value.ref C == Value.type T) = false := by first | rfl | (apply Bool.eq_false_iff.mpr; intro z; exact Value.noConfusion (eq_of_beq z)) | simp
  rw [e]
  show (if PySem.W.kitMeta T = true then PySem.W.subIn K (.ref C) (.type T) else none) = some false
  rw [if_pos km]
  exact sb

theorem fund_mk {K : PySem.W.Frag} {x q : Str} {st : Stmt} {f t : Addr} {oc toc : Value} {od tod an : Option Addr} {osl tsl : Array (Option Value)} {kV doc pm cdv ct : Value} {n : _}
    (l : K.lookup f = some ⟨oc, od, .func (PySem.W.fnOf x q (defArgs st) (defBody st) (defScope st) (.ref t) kV doc pm an cdv ct), osl⟩) (lt : K.lookup t = some ⟨toc, tod, .seq #[.none] n, tsl⟩)
    (c : PySem.W.codeIn K cdv q = true) (k : PySem.W.keepIn K (.ref f) = true) : FunD K x q (defArgs st) (defBody st) (defScope st) [.non] [] f (PySem.W.fnOf x q (defArgs st) (defBody st) (defScope st) (.ref t) kV doc pm an cdv ct) := by
  refine ⟨⟨oc, od, .ref t, kV, doc, pm, an, cdv, ct, osl, rfl, l, c, ?_, .inl rfl⟩, k⟩
  have ne : ([V.non] : List V) ≠ [] := fun h => nomatch h
  exact Or.inr ⟨ne, t, _, [Value.none], n, rfl, lt, rfl, Paired.cons (show L2.RelV V.non Value.none from rfl) Paired.nil⟩
theorem binds_nil {K : PySem.W.Frag} {fd : FuncData} {ps : List Str} (h : ∃ ds, Vals ([] : List V) ds ∧ L2.Binds K fd ps ds) : L2.Binds K fd ps [] := by
  obtain ⟨ds, v, b⟩ := h
  cases v
  exact b


end My
namespace My
open PySem PySem.Spec PyProof.Rows L2 TL
set_option pp.maxSteps 400
set_option pp.deepTerms false
/-! ### _law_some, with a number that may be greater than the row: how many there are -/
def sp__law_some4 (K : PySem.W.Frag) : Sp := fun vs H Q _ => ∃ (d l : Addr) (xs : List V) (n : Nat), vs = [.ref d, .ref l, .int n] ∧ IsDice H d ∧ SqL K H l xs ∧ l ≠ d ∧ xs.length < 1000000 ∧
  ∀ p ys left H', (ys ++ left).Perm xs → ys.length = min n xs.length → H p = none → p ≠ d → H' p = some (.lst ys) → Ext d H H' → IsDice H' d → Q (.ref p) H'
section
variable {P : Program} {w : World} {K : PySem.W.Frag} {mg : Str → Option Value} {base : Heap} {C_Type C_Library : Addr}
theorem ok__law_some4 (T : Txt K mg C_Type C_Library) (c__law_roll : CalN P w K mg base "_law_roll" 1 ["_law_dice_here", "_law_total"] (sp__law_roll K)) {f : Addr} {fd : FuncData} (F : Fun K "_law_some" "_law_some" s__law_some f fd) : FnOk P w K mg base CX0 2 f fd ["_law_dice_here", "_law_items", "_law_size"] (sp__law_some4 K) := by
  have nd := sc__law_some.nd
  refine F.ok sc__law_some (fun vs H Q E h => ?_) (fun cdv A outer s H vs Q E hr h => ?_)
  · obtain ⟨d, l, xs, n, rfl, _⟩ := h
    rfl
  · obtain ⟨d, l, xs, n, rfl, hd, hl, ne, hz, q⟩ := h
    have n0 : (0 : Int) ≤ n := Int.natCast_nonneg n
    refine ⟨_, (pss_cons (ps_set (i := 3) nd rfl (.inr rfl) (pe_callTy call_list_of (by rfl) T.b_list (by decide +kernel) (pa_cons (pv 1) pa_nil)))
      (pss_one (ps_ret (pe_lcD (own := [("_law_turn", 4)]) (by rfl) nd (pi_range1 (by rfl) T.b_range (pa_cons (pe_callB (call_min2 rfl) (by rfl) T.b_min (by decide +kernel) (pa_cons (pv 2) (pa_cons (pe_callB call_len (by rfl) T.b_len (by decide +kernel) (pa_cons (pv 3) pa_nil)) pa_nil))) pa_nil)) (blkOk_by (own := [("_law_turn", 4)]) (N := ["_law_dice_here", "_law_items", "_law_size", "_law_left", "_law_turn"]) (sc := (defScope s__law_some)) (by decide +kernel)) (fun _ _ _ _ _ => pg_name (i := 4) nd rfl (Or.inl rfl)) (fun _ _ _ _ _ => pts_nil) (fun _ _ _ _ _ => (pe_bm PySem.F.plainAttrs_list PySem.F.slot_list_pop PySem.F.type_list_pop mt_popAt (pv 3) (pa_cons (pe_callN c__law_roll (hr.mono (by first | decide | omega)) rfl (pa_cons (pv 0) (pa_cons (pe_callB call_len (by rfl) T.b_len (by decide +kernel) (pa_cons (pv 3) pa_nil)) pa_nil))) pa_nil))))))), ?_⟩
    refine ⟨.ref l, rfl, l, xs, rfl, .inl hl, fun p hp => ?_⟩
    have nep : p ≠ d := hd.ne hp
    have e1 : Ext d H (upd H p (.lst xs)) := (Ext.refl H).new hp
    have d1 := hd.new (o := .lst xs) hp
    refine ⟨.int n, rfl, .ref p, rfl, .ref p, xs.length, rfl, .inl ⟨xs, SqL.of upd_same, rfl⟩, (n : Int), _, rfl, _, rfl, ?_, ?_, fun D hD => ?_⟩
    · by_cases h : (xs.length : Int) < n <;> simp only [h, if_true, if_false] <;> omega
    · by_cases h : (xs.length : Int) < n <;> simp only [h, if_true, if_false] <;> omega
    have neD : D ≠ d := d1.ne hD
    have npD : p ≠ D := fun z => by
      rw [← z, upd_same] at hD
      cases hD
    have hDH : H D = none := e1.none neD hD
    have hm : (if (xs.length : Int) < n then (xs.length : Int) else n).toNat ≤ xs.length := by
      by_cases h : (xs.length : Int) < n <;> simp only [h, if_true, if_false] <;> omega
    refine lc_range (lo := 0) (n := (if (xs.length : Int) < n then (xs.length : Int) else n).toNat)
      (fun i H' => ∃ left ys : List V, H' p = some (.lst left) ∧ H' D = some (.lst ys) ∧ left.length + i = xs.length ∧ ys.length = i ∧ (ys ++ left).Perm xs ∧ Ext d H H' ∧ IsDice H' d) ?_ (fun i H1 hi hP => ?_) (fun H1 hP => ?_)
    · exact ⟨xs, [], by rw [upd_ne npD]; exact upd_same, upd_same, by simp, rfl, List.Perm.refl _, e1.new hD, d1.mut neD⟩
    · obtain ⟨left, ys, hp1, hD1, el, ey, pm, e2, d2⟩ := hP
      refine ⟨rfl, tyes ?_⟩
      have l0 : 0 < left.length := by omega
      refine ⟨.ref p, rfl, .inl ⟨rfl, _, SqL.of hp1⟩, .ref d, rfl, .ref p, rfl, .ref p, left.length, rfl, .inl ⟨left, SqL.of hp1, rfl⟩, ?_⟩
      refine ⟨d, (left.length : Int), rfl, d2, by omega, by omega, fun r H2 r0 r1 e3 d3 => ?_⟩
      have hr' : r.toNat < left.length := by omega
      refine ⟨p, left, r, r.toNat, left[r.toNat], rfl, rfl, e3 _ _ nep hp1, by omega, by omega, ixat r0 r1, List.getElem?_eq_getElem hr', ?_⟩
      have hD2 : H2 D = some (.lst ys) := e3 _ _ neD hD1
      refine ⟨ys, by rw [upd_ne npD.symm]; exact hD2, lt_line' (by omega), left.eraseIdx r.toNat, ys ++ [left[r.toNat]], by rw [upd_ne npD]; exact upd_same, upd_same, ?_, ?_, ?_, ?_, ?_⟩
      · rw [List.length_eraseIdx_of_lt hr']
        omega
      · simp [ey]
      · refine List.Perm.trans ?_ pm
        rw [List.append_assoc]
        exact (erase_perm left r.toNat _ (List.getElem?_eq_getElem hr')).append_left ys
      · exact ((e2.trans e3).mut hp).mut hDH
      · exact (d3.mut nep).mut neD
    · obtain ⟨left, ys, hp1, hD1, el, ey, pm, e2, d2⟩ := hP
      refine q D ys left H1 pm ?_ hDH neD hD1 e2 d2
      rw [ey]
      by_cases h : (xs.length : Int) < n <;> simp only [h, if_true, if_false] <;> omega
end


end My
namespace My
open PySem PySem.Spec PyProof.Rows L2 TL
set_option pp.maxSteps 400
set_option pp.deepTerms false
/-! ### libraries without parts, with these parts alone -/
def sp_Library__check_names (K : PySem.W.Frag) (C D : Addr) : Sp := fun vs H Q _ => ∃ v p, ∃ L : Lib, ∃ ns : List Str, vs = [v, .ref p] ∧ IsL C D H L v ∧ H p = some (.tup (ns.map V.str)) ∧ (∀ n ∈ ns, n ∈ L.names) ∧ ∀ H', Same H H' → Q .non H'
def sp_Library_without (K : PySem.W.Frag) (C D : Addr) : Sp := fun vs H Q _ => ∃ v p, ∃ L : Lib, ∃ ns : List Str, vs = [v, .ref p] ∧ IsL C D H L v ∧ L.Fine ∧ H p = some (.tup (ns.map V.str)) ∧ (∀ n ∈ ns, n ∈ L.names) ∧
  ∀ N x H', List.Perm N (L.filter fun e => !decide (e.1 ∈ ns)) → sortedS (Lib.names N) = true → Same H H' → IsL C D H' N (.ref x) → Q (.ref x) H'
def sp_Library_only (K : PySem.W.Frag) (C D : Addr) : Sp := fun vs H Q _ => ∃ v p, ∃ L : Lib, ∃ ns : List Str, vs = [v, .ref p] ∧ IsL C D H L v ∧ L.Fine ∧ H p = some (.tup (ns.map V.str)) ∧ (∀ n ∈ ns, n ∈ L.names) ∧
  ∀ N x H', List.Perm N (L.filter fun e => decide (e.1 ∈ ns)) → sortedS (Lib.names N) = true → Same H H' → IsL C D H' N (.ref x) → Q (.ref x) H'
theorem ite_to {c : Bool} {a b : Prop} (h : c = true) (q : a) : if c = true then a else b := by rw [if_pos h]; exact q
theorem ite_no {c : Bool} {a b : Prop} (h : c = false) (q : b) : if c = true then a else b := by rw [h, if_neg (by decide)]; exact q
section
variable {P : Program} {w : World} {K : PySem.W.Frag} {mg : Str → Option Value} {base : Heap} {C_Type C_Library : Addr}
theorem ok_Library__check_names (T : Txt K mg C_Type C_Library) (m_Library___contains__ : MetC P w K mg base C_Library "__contains__" 1 ["self", "x"] (sp_Library___contains__ K C_Type C_Library)) {f : Addr} {fd : FuncData} (F : Fun K "_check_names" "Library._check_names" s_Library__check_names f fd) : FnOk P w K mg base CX0 2 f fd ["self", "names"] (sp_Library__check_names K C_Type C_Library) := by
  have nd := sc_Library__check_names.nd
  refine F.ok sc_Library__check_names (fun vs H Q E h => ?_) (fun cdv A outer s H vs Q E hr h => ?_)
  · obtain ⟨v, p, L, ns, rfl, _⟩ := h
    rfl
  · obtain ⟨v, p, L, ns, rfl, hL, hp, inL, q⟩ := h
    refine ⟨_, (pss_one (ps_for PassesOwn.never rfl (pi_tup (pv 1)) (pg_name (i := 2) nd rfl (.inl rfl)) (pss_one (ps_if (pt_cmpR (op_notInO m_Library___contains__ (hr.mono (by first | decide | omega))) (pv 2) (pv 0) (by rfl)) (pss_one ps_never) pss_nil)))), ?_⟩
    obtain ⟨x, dx, d, p0, q', kvs, rfl, hx, hd, hpp, hn, hq⟩ := id hL
    refine ⟨.ref p, rfl, p, rfl, ⟨_, SqT.of hp⟩, ?_⟩
    refine for_tup (xs := ns.map V.str) (fun i σ' H' => (∃ s2, σ' = [some (.ref x), some (.ref p), s2]) ∧ Same H H') ?_ (fun i σ' H' _ hP => SqT.of (hP.2 _ _ hp)) (fun i y σ' H' hy hP => ?_) (fun σ' H' hP => ?_)
    · exact ⟨⟨_, rfl⟩, Same.refl H⟩
    · obtain ⟨⟨s2, rfl⟩, sm⟩ := hP
      rw [List.getElem?_map] at hy
      obtain ⟨n, hn', rfl⟩ := Option.map_eq_some_iff.mp hy
      have mem := inL n (List.mem_of_getElem? hn')
      refine ⟨.str n, rfl, .ref x, rfl, x, dx, _, rfl, sm _ _ hx, .ref x, .str n, L, rfl, hL.same sm, .inl ⟨n, rfl, _, rfl, ?_⟩⟩
      dsimp only
      refine ⟨false, congrArg V.bl (by simp [mem]), iteF ?_⟩
      exact ⟨⟨_, rfl⟩, sm⟩
    · obtain ⟨⟨s2, rfl⟩, sm⟩ := hP
      exact q _ sm
theorem ok_Library_without (T : Txt K mg C_Type C_Library) (m_Library__check_names : MetC P w K mg base C_Library "_check_names" 2 ["self", "names"] (sp_Library__check_names K C_Type C_Library)) (i_Library___init__ : MakC P w K mg base C_Library 3 ["self", "parts"] (sp_Library___init__ K C_Type C_Library)) {f : Addr} {fd : FuncData} (F : Fun K "without" "Library.without" s_Library_without f fd) : FnR P w K mg base CX0 5 f (starSp 1 (sp_Library_without K C_Type C_Library)) := by
  have nd := sc_Library_without.nd
  refine F.okStar sc_Library_without (fun _ _ _ _ _ _ _ => rfl) (fun _ _ _ _ _ _ _ _ _ => rfl) (fun cdv A outer s H vs Q E hr h => ?_)
  · obtain ⟨v, p, L, ns, rfl, hL, fL, hp, inL, q⟩ := h
    refine ⟨_, (pss_cons (ps_expr (pe_methC m_Library__check_names T.k_Library (hr.mono (by first | decide | omega)) (pv 0) (pa_cons (pv 1) pa_nil)))
      (pss_one (ps_ret (pe_makeC i_Library___init__ (hr.mono (by first | decide | omega)) rfl T.c_Library (pa_cons (pe_dcD (own := [("name", 2)]) (by rfl) nd (pi_tup (pe_fld (pv 0) rfl)) (blkOk_by (own := [("name", 2)]) (N := ["self", "names", "name"]) (sc := (defScope s_Library_without)) (by decide +kernel)) (fun _ _ _ _ _ => pg_name (i := 2) nd rfl (Or.inl rfl)) (fun _ _ _ _ _ => pts_one (pt_cmpR op_notIn_seq (pv 2) (pv 1) (by rfl))) (fun _ _ _ _ _ => (pv 2)) (fun _ _ _ _ _ => (pe_dget (by first | exact Nat.lt_of_le_of_lt (Nat.add_le_add_left (by decide : 1 ≤ 64) _) hr.units | exact Nat.lt_of_le_of_lt (Nat.add_le_add_left (by decide : 4 ≤ 64) _) hr.units | exact Nat.lt_of_le_of_lt (Nat.add_le_add_left (by decide : 7 ≤ 64) _) hr.units) (pe_fld (pv 0) rfl) (pv 2) (fun _ _ => rfl)))) pa_nil))))), ?_⟩
    obtain ⟨x, dx, d, p0, q', kvs, rfl, hx, hd, hpp, hn, hq⟩ := id hL
    have few := fL.few
    refine ⟨.ref x, rfl, x, dx, _, rfl, hx, rfl, .ref p, rfl, .ref x, p, L, ns, rfl, hL, hp, inL, fun H1 s1 => ?_⟩
    dsimp only
    refine ⟨.ref x, rfl, x, C_Library, dx, _, .ref p0, rfl, s1 _ _ hx, T.k_Library, T.x_Library.n_names, rfl, p0, rfl, ⟨_, SqT.of (s1 _ _ hn)⟩, fun D hD => ?_⟩
    refine dc_tup (xs := L.names.map V.str) (fun i H' => ∃ ks, H' D = some (.dK ks) ∧ IsP C_Type H' ((L.take i).filter fun e => !decide (e.1 ∈ ns)) ks ∧ Same H1 H') ?_ (fun i H' _ hP => ?_) (fun i z H' hz hP => ?_) (fun H' hP => ?_)
    · exact ⟨[], upd_same, by rw [List.take_zero]; rfl, (Same.refl _).mut hD⟩
    · obtain ⟨_, _, _, s4⟩ := hP
      exact SqT.of (s4 _ _ (s1 _ _ hn))
    · obtain ⟨ks, hD1, hp1, s4⟩ := hP
      obtain ⟨e, he, rfl⟩ := Lib.names_at hz
      have io := lt_of_get he
      have s14 := s1.trans s4
      obtain ⟨v, ev, ht⟩ := (hpp.same s14).val_of fL.nodup (List.mem_of_getElem? he)
      have g : DGet H' d (.str e.1) (some v) := .inl ⟨kvs, Sum.inr e.1, .inl (s14 _ _ hd), rfl, ev.symm⟩
      have kl := hp1.len
      have fl := List.length_filter_le (fun e => !decide (e.1 ∈ ns)) (L.take i)
      rw [List.length_take] at fl
      refine ⟨rfl, ?_⟩
      refine ⟨.str e.1, rfl, .ref p, rfl, p, _, rfl, .inr (SqT.of (s14 _ _ hp)), rfl, flat_strs _, _, rfl, ?_⟩
      dsimp only
      rw [inV_strs]
      by_cases c : e.1 ∈ ns
      · rw [decide_eq_true c]
        refine ite_no (by simp) ?_
        refine ⟨ks, hD1, ?_, s4⟩
        rw [take_next he, List.filter_append, List.filter_cons_of_neg (by simpa using c), List.filter_nil, List.append_nil]
        exact hp1
      · rw [decide_eq_false c]
        refine ite_to (by simp) ?_
        refine ⟨.str e.1, rfl, .ref x, rfl, x, C_Library, dx, _, .ref d, rfl, s14 _ _ hx, T.k_Library, T.x_Library.n_parts, rfl, .str e.1, rfl, d, v, rfl, g, _, Sum.inr e.1, rfl, hD1, lt_line' (by omega), ks ++ [(Sum.inr e.1, v)], ?_, ?_, s4.mut hD⟩
        · rw [upd_same, putK_new _ (hp1.none_of fun k => Lib.take_out fL.nodup he (by
            obtain ⟨e', h1, h2⟩ := List.mem_map.mp k
            exact List.mem_map.mpr ⟨e', (List.mem_filter.mp h1).1, h2⟩))]
        · have hh := held_dk (o := .dK (putK ks (Sum.inr e.1) v)) hD1
          rw [take_next he, List.filter_append, List.filter_cons_of_pos (by simpa using c), List.filter_nil]
          exact (hp1.held hh).app (IsT.held hh _ _ ht)
    · obtain ⟨ks, hD1, hp1, s4⟩ := hP
      rw [List.length_map, Lib.names, List.length_map, List.take_length] at hp1
      exact make_lib hD1 hp1 (fL.filter _) fun N x' H2 pm so s5 hN => q N x' H2 pm so ((s1.trans s4).trans s5) hN
theorem ok_Library_only (T : Txt K mg C_Type C_Library) (m_Library__check_names : MetC P w K mg base C_Library "_check_names" 2 ["self", "names"] (sp_Library__check_names K C_Type C_Library)) (i_Library___init__ : MakC P w K mg base C_Library 3 ["self", "parts"] (sp_Library___init__ K C_Type C_Library)) {f : Addr} {fd : FuncData} (F : Fun K "only" "Library.only" s_Library_only f fd) : FnR P w K mg base CX0 5 f (starSp 1 (sp_Library_only K C_Type C_Library)) := by
  have nd := sc_Library_only.nd
  refine F.okStar sc_Library_only (fun _ _ _ _ _ _ _ => rfl) (fun _ _ _ _ _ _ _ _ _ => rfl) (fun cdv A outer s H vs Q E hr h => ?_)
  · obtain ⟨v, p, L, ns, rfl, hL, fL, hp, inL, q⟩ := h
    refine ⟨_, (pss_cons (ps_expr (pe_methC m_Library__check_names T.k_Library (hr.mono (by first | decide | omega)) (pv 0) (pa_cons (pv 1) pa_nil)))
      (pss_one (ps_ret (pe_makeC i_Library___init__ (hr.mono (by first | decide | omega)) rfl T.c_Library (pa_cons (pe_dcD (own := [("name", 2)]) (by rfl) nd (pi_tup (pe_fld (pv 0) rfl)) (blkOk_by (own := [("name", 2)]) (N := ["self", "names", "name"]) (sc := (defScope s_Library_only)) (by decide +kernel)) (fun _ _ _ _ _ => pg_name (i := 2) nd rfl (Or.inl rfl)) (fun _ _ _ _ _ => pts_one (pt_cmpR op_in_seq (pv 2) (pv 1) (by rfl))) (fun _ _ _ _ _ => (pv 2)) (fun _ _ _ _ _ => (pe_dget (by first | exact Nat.lt_of_le_of_lt (Nat.add_le_add_left (by decide : 1 ≤ 64) _) hr.units | exact Nat.lt_of_le_of_lt (Nat.add_le_add_left (by decide : 4 ≤ 64) _) hr.units | exact Nat.lt_of_le_of_lt (Nat.add_le_add_left (by decide : 7 ≤ 64) _) hr.units) (pe_fld (pv 0) rfl) (pv 2) (fun _ _ => rfl)))) pa_nil))))), ?_⟩
    obtain ⟨x, dx, d, p0, q', kvs, rfl, hx, hd, hpp, hn, hq⟩ := id hL
    have few := fL.few
    refine ⟨.ref x, rfl, x, dx, _, rfl, hx, rfl, .ref p, rfl, .ref x, p, L, ns, rfl, hL, hp, inL, fun H1 s1 => ?_⟩
    dsimp only
    refine ⟨.ref x, rfl, x, C_Library, dx, _, .ref p0, rfl, s1 _ _ hx, T.k_Library, T.x_Library.n_names, rfl, p0, rfl, ⟨_, SqT.of (s1 _ _ hn)⟩, fun D hD => ?_⟩
    refine dc_tup (xs := L.names.map V.str) (fun i H' => ∃ ks, H' D = some (.dK ks) ∧ IsP C_Type H' ((L.take i).filter fun e => decide (e.1 ∈ ns)) ks ∧ Same H1 H') ?_ (fun i H' _ hP => ?_) (fun i z H' hz hP => ?_) (fun H' hP => ?_)
    · exact ⟨[], upd_same, by rw [List.take_zero]; rfl, (Same.refl _).mut hD⟩
    · obtain ⟨_, _, _, s4⟩ := hP
      exact SqT.of (s4 _ _ (s1 _ _ hn))
    · obtain ⟨ks, hD1, hp1, s4⟩ := hP
      obtain ⟨e, he, rfl⟩ := Lib.names_at hz
      have io := lt_of_get he
      have s14 := s1.trans s4
      obtain ⟨v, ev, ht⟩ := (hpp.same s14).val_of fL.nodup (List.mem_of_getElem? he)
      have g : DGet H' d (.str e.1) (some v) := .inl ⟨kvs, Sum.inr e.1, .inl (s14 _ _ hd), rfl, ev.symm⟩
      have kl := hp1.len
      have fl := List.length_filter_le (fun e => decide (e.1 ∈ ns)) (L.take i)
      rw [List.length_take] at fl
      refine ⟨rfl, ?_⟩
      refine ⟨.str e.1, rfl, .ref p, rfl, p, _, rfl, .inr (SqT.of (s14 _ _ hp)), rfl, flat_strs _, _, rfl, ?_⟩
      dsimp only
      rw [inV_strs]
      by_cases c : e.1 ∈ ns
      · rw [decide_eq_true c]
        refine ite_to (by simp) ?_
        refine ⟨.str e.1, rfl, .ref x, rfl, x, C_Library, dx, _, .ref d, rfl, s14 _ _ hx, T.k_Library, T.x_Library.n_parts, rfl, .str e.1, rfl, d, v, rfl, g, _, Sum.inr e.1, rfl, hD1, lt_line' (by omega), ks ++ [(Sum.inr e.1, v)], ?_, ?_, s4.mut hD⟩
        · rw [upd_same, putK_new _ (hp1.none_of fun k => Lib.take_out fL.nodup he (by
            obtain ⟨e', h1, h2⟩ := List.mem_map.mp k
            exact List.mem_map.mpr ⟨e', (List.mem_filter.mp h1).1, h2⟩))]
        · have hh := held_dk (o := .dK (putK ks (Sum.inr e.1) v)) hD1
          rw [take_next he, List.filter_append, List.filter_cons_of_pos (by simpa using c), List.filter_nil]
          exact (hp1.held hh).app (IsT.held hh _ _ ht)
      · rw [decide_eq_false c]
        refine ite_no (by simp) ?_
        refine ⟨ks, hD1, ?_, s4⟩
        rw [take_next he, List.filter_append, List.filter_cons_of_neg (by simpa using c), List.filter_nil, List.append_nil]
        exact hp1
    · obtain ⟨ks, hD1, hp1, s4⟩ := hP
      rw [List.length_map, Lib.names, List.length_map, List.take_length] at hp1
      exact make_lib hD1 hp1 (fL.filter _) fun N x' H2 pm so s5 hN => q N x' H2 pm so ((s1.trans s4).trans s5) hN
end


end My
namespace My
open PySem PySem.Spec PyProof.Rows L2 TL
set_option pp.maxSteps 400
set_option pp.deepTerms false
/-! ### own errors -/
structure ErrT (K : PySem.W.Frag) (mg : Str → Option Value) (x : Str) (C : Addr) : Prop where
  exc : PySem.W.excIn K C [.type "ValueError", .type "Exception", .type "BaseException", .type "object"] "ValueError.__new__" = true
  g : mg x = some (.ref C)
  k : PySem.W.keepIn K (.ref C) = true
  b : PySem.W.subIn K (.ref C) (.type "BaseException") = some true
  t : PySem.W.typeIn K (.ref C) = some (.type "type")

/-! ### >> that may be too large -/
structure MakX (P : Program) (w : World) (K : PySem.W.Frag) (mg : Str → Option Value) (base : Heap) (C : Addr) (k : Nat) (ps : List Str) (sp : Sp) : Prop where
  ex : ∃ f fd, FnOk P w K mg base (L2.CX P w) k f fd ps sp ∧ Mk K C f ∧ Binds K fd ps []
section
variable {X : Cx} {x : Str} {k : Nat} {ps : List Str} {sp : Sp} {e : Expr} {es : List Expr} {t : TA} {p pos : Pos} {C : Addr} {E : XK}
/-- what leaves the making leaves the def -/
theorem pe_makeX (c : MakX X.prog X.w X.K X.mg X.base C k ps sp) (room : Room (k + 1) X.A) (hg : Gl X x) (hm : X.mg x = some (.ref C)) (pass : Passes (L2.CX X.prog X.w) X E) (ha : PA X (e :: es) t) (hdb : (x == ("__debug__" : Str)) = false := by decide)
    (he : starEach (e :: es) X.env = (false, eval e X.env) :: starEach es X.env := by rfl) (hpl : (backTo pos (starEach es X.env)).any (·.1) = false := by rfl) :
    PE X (.Call (.Name x p) (e :: es) [] pos) (tMake C sp [] E t) := by
  obtain ⟨f, fd, ok, M, hb⟩ := c.ex
  exact pe_make M ok room hg hm hb .nil pass ha hdb he hpl
end

/-! ### methods and operators that may raise -/
structure MetX (P : Program) (w : World) (K : PySem.W.Frag) (mg : Str → Option Value) (base : Heap) (C : Addr) (m : Str) (k : Nat) (ps : List Str) (sp : Sp) : Prop where
  ex : ∃ f fd, FnOk P w K mg base (L2.CX P w) k f fd ps sp ∧ Meth K C m f ∧ Binds K fd ps []
section
variable {X : Cx} {m : Str} {k : Nat} {ps : List Str} {sp : Sp} {e o : Expr} {es : List Expr} {ta : TE} {t : TA} {pos apos : Pos} {C : Addr} {E : XK}
theorem pe_methX {pl : Sem Bool} (c : MetX X.prog X.w X.K X.mg X.base C m k ps sp) (cls : Cls X.K C) (room : Room k X.A) (pass : Passes (L2.CX X.prog X.w) X E) (ho : PE X o ta) (ha : PA X (e :: es) t)
    (hst : starEach (e :: es) X.env = (false, eval e X.env) :: starEach es X.env := by rfl) (hpl : (backTo pos (starEach es X.env)).any (·.1) = false := by rfl)
    (ht : eval (.Call (.Attribute o m apos) (e :: es) [] pos) X.env = (do
      let ov ← eval o X.env
      standAt apos.atName
      let (f, first) ← holding [ov] (getMethod ov m pl)
      callWith pos f first (backTo pos (starEach (e :: es) X.env)) (backToKw pos (keywordEach [] X.env))) := by rfl) :
    PE X (.Call (.Attribute o m apos) (e :: es) [] pos) (tMeth C m sp [] E ta t) := by
  obtain ⟨f, fd, ok, M, binds⟩ := c.ex
  exact pe_meth ho cls M ok room binds .nil pass ha hst hpl ht
theorem op_ownX {op : Operator} (c : MetX X.prog X.w X.K X.mg X.base C m k ps sp) (room : Room k X.A) (first : PySem.W.selfFirst X.K C = true) (pass : Passes (L2.CX X.prog X.w) X E) (name : PySem.dunder op.info.2 = m := by rfl) : OpR X (binaryOp op) (rOwn C sp E) := by
  obtain ⟨f, fd, ok, M, binds⟩ := c.ex
  exact op_own (Runs.of ok room binds pass) first (name ▸ M.at_) M.fn
theorem op_or {g : Value → Value → Sem Value} {r1 r2 : R2} (a : OpR X g r1) (b : OpR X g r2) : OpR X g (fun x y H Q => r1 x y H Q ∨ r2 x y H Q) := by
  intro pins s σ H x y v u Q I rx ry h
  rcases h with h | h
  · exact a pins s σ H x y v u Q I rx ry h
  · exact b pins s σ H x y v u Q I rx ry h
end


end My
namespace My
open PySem PySem.Spec PyProof.Rows L2 TL
set_option pp.maxSteps 400
set_option pp.deepTerms false
/-! ### Library(..) that may have too many parts -/
def sp_Library_initX (K : PySem.W.Frag) (C D CE : Addr) : Sp := fun vs H Q E => ∃ x dx a, ∃ L : Lib, vs = [.ref x, a] ∧ H x = some (.ins D dx []) ∧ (∃ d kvs, a = .ref d ∧ H d = some (.dK kvs) ∧ IsP C H L kvs) ∧ (∀ e ∈ L, Wd e.1) ∧ (∀ e ∈ L, e.2.Fits) ∧ L.names.Nodup ∧ L.length ≤ 100 ∧
  (L.length ≤ 8 → ∀ L' H', L'.Perm L → sortedS L'.names = true → (∀ b o, b ≠ x → H b = some o → H' b = some o) → IsL C D H' L' (.ref x) → Q .non H') ∧
  (¬ L.length ≤ 8 → ∀ H', Same H H' → E (.ref CE) none H')
section
variable {P : Program} {w : World} {K : PySem.W.Frag} {mg : Str → Option Value} {base : Heap} {C_Type C_Library C_InvalidLibrary : Addr}
theorem ok_Library_initX (T : Txt K mg C_Type C_Library) (e_InvalidLibrary : ErrT K mg "InvalidLibrary" C_InvalidLibrary) (c__are_parts : CalN P w K mg base "_are_parts" 2 ["parts"] (sp__are_parts K C_Type)) (p_Type_text : PrpC P w K mg base C_Type "text" 1 ["self"] (getSp C_Type "_text")) {f : Addr} {fd : FuncData} {pms : Arguments} (F : FunD K "__init__" "Library.__init__" pms (defBody s_Library___init__) (defScope s_Library___init__) [.non] [] f fd) : FnOk P w K mg base (L2.CX P w) 3 f fd ["self", "parts"] (sp_Library_initX K C_Type C_Library C_InvalidLibrary) := by
  have nd := sc_Library___init__.nd
  refine F.ok sc_Library___init__ (fun vs H Q E h => ?_) (fun cdv A outer s H vs Q E hr h => ?_)
  · obtain ⟨x, dx, a, L, rfl, _⟩ := h
    rfl
  · obtain ⟨x, dx, a, L, rfl, hx, ha, words, fits, nodup0, l100, q, qE⟩ := h
    refine ⟨_, (pss_cons (ps_set (i := 2) nd rfl (.inr rfl) (pe_ifExp (pt_cmpR op_isN (pv 1) pe_non (nomark _)) pe_dnewK (pv 1)))
      (pss_cons (ps_if (pt_not (pt_val (pe_callN c__are_parts (hr.mono (by first | decide | omega)) rfl (pa_cons (pv 2) pa_nil)))) (pss_one (ps_raise rfl (takes_of rfl rfl rfl rfl) (pmk_own PySem.F.excBase_ValueError e_InvalidLibrary.exc e_InvalidLibrary.g e_InvalidLibrary.k (raises_own e_InvalidLibrary.b e_InvalidLibrary.t) rfl))) pss_nil)
      (pss_cons (ps_fld (pv 0) (pe_dcD (own := [("name", 3)]) (by rfl) nd (pi_list (pe_callB (call_sortedD rfl) (by rfl) T.b_sorted (by decide +kernel) (pa_cons (pv 2) pa_nil))) (blkOk_by (own := [("name", 3)]) (N := ["self", "parts", "given", "name"]) (sc := (defScope s_Library___init__)) (by decide +kernel)) (fun _ _ _ _ _ => pg_name (i := 3) nd rfl (Or.inl rfl)) (fun _ _ _ _ _ => pts_nil) (fun _ _ _ _ _ => (pv 3)) (fun _ _ _ _ _ => (pe_dget (by first | exact Nat.lt_of_le_of_lt (Nat.add_le_add_left (by decide : 1 ≤ 64) _) hr.units | exact Nat.lt_of_le_of_lt (Nat.add_le_add_left (by decide : 4 ≤ 64) _) hr.units | exact Nat.lt_of_le_of_lt (Nat.add_le_add_left (by decide : 7 ≤ 64) _) hr.units) (pv 2) (pv 3) (fun _ _ => rfl)))) rfl)
      (pss_cons (ps_fld (pv 0) (pe_callTy (call_tupleD rfl) (by rfl) T.b_tuple (by decide +kernel) (pa_cons (pe_fld (pv 0) rfl) pa_nil)) rfl)
      (pss_one (ps_fld (pv 0) (pe_callTy call_tuple_of (by rfl) T.b_tuple (by decide +kernel) (pa_cons (pe_lcD (own := [("name", 3)]) (by rfl) nd (pi_tup (pe_fld (pv 0) rfl)) (blkOk_by (own := [("name", 3)]) (N := ["self", "parts", "given", "name"]) (sc := (defScope s_Library___init__)) (by decide +kernel)) (fun _ _ _ _ _ => pg_name (i := 3) nd rfl (Or.inl rfl)) (fun _ _ _ _ _ => pts_nil) (fun _ _ _ _ _ => (pe_joined (PJ.cons (pe_fmt (pv 3)) (PJ.cons (pe_fmt (pe_globE rfl T.g__COLON)) (PJ.cons (pe_fmt (pe_propC p_Type_text T.k_Type (hr.mono (by first | decide | omega)) (pe_dget (by first | exact Nat.lt_of_le_of_lt (Nat.add_le_add_left (by decide : 1 ≤ 64) _) hr.units | exact Nat.lt_of_le_of_lt (Nat.add_le_add_left (by decide : 4 ≤ 64) _) hr.units | exact Nat.lt_of_le_of_lt (Nat.add_le_add_left (by decide : 7 ≤ 64) _) hr.units) (pe_fld (pv 0) rfl) (pv 3) (fun _ _ => rfl)))) PJ.nil)))))) pa_nil)) rfl)))))), ?_⟩
    refine cut_set (fun v H' => ∃ d kvs, v = .ref d ∧ H' d = some (.dK kvs) ∧ IsP C_Type H' L kvs ∧ Same H H') (fun Q' q' => ?_) ?_
    · rcases ha with ⟨d, kvs, rfl, hd, hp⟩
      · refine ⟨.ref d, rfl, rfl, false, congrArg V.bl (decide_eq_false (fun z => nomatch z)), iteF ?_⟩
        exact ⟨.ref d, rfl, q' _ _ ⟨d, kvs, rfl, hd, hp, Same.refl H⟩⟩
    rintro v H1 ⟨d, kvs, rfl, hd, hp, s1⟩
    by_cases few : L.length ≤ 8
    case neg =>
      refine ⟨.ref d, rfl, d, kvs, L, rfl, hd, hp, l100, words, nodup0, fun H2 s2 => ⟨false, congrArg V.bl (decide_eq_false few), iteT ?_⟩⟩
      exact qE few H2 (s1.trans s2)
    have fine : L.Fine := ⟨words, fits, few, nodup0⟩
    have q := q few
    refine ⟨.ref d, rfl, d, kvs, L, rfl, hd, hp, l100, words, nodup0, fun H2 s2 => ⟨true, congrArg V.bl (decide_eq_true few), iteF ?_⟩⟩
    refine nx_go ?_
    dsimp only
    have s02 := s1.trans s2
    have hd2 := s2 _ _ hd
    have hp2 := hp.same s2
    clear s1 s2 hd hp ha
    have ln := hp2.len
    have few := fine.few
    refine ⟨.ref d, rfl, d, kvs, L.names, rfl, .inl hd2, hp2.keys, by rw [Lib.names, List.length_map]; omega, fun ys p pm so hpn => ⟨p, rfl, ⟨_, SqL.of upd_same⟩, fun D hD => ?_⟩⟩
    have s3 := (Same.refl H2).new (o := .lst (ys.map V.str)) hpn
    have Dd := s3.free hD
    have yn : ys.Nodup := pm.nodup_iff.mpr fine.nodup
    have nD0 : H D = none := s02.free Dd
    refine dc_list (xs := ys.map V.str) (fun i H' => ∃ ks, H' D = some (.dK ks) ∧ IsP C_Type H' (L.pick (ys.take i)) ks ∧ Same (upd H2 p (.lst (ys.map V.str))) H') ?_ (fun i H' _ hP => ?_) (fun i y H' hy hP => ?_) (fun H' hP => ?_)
    · exact ⟨[], upd_same, by rw [List.take_zero]; rfl, (Same.refl _).mut hD⟩
    · obtain ⟨_, _, _, s4⟩ := hP
      exact SqL.of (s4 _ _ upd_same)
    · obtain ⟨ks, hD1, hp1, s4⟩ := hP
      have io := lt_of_get hy
      rw [List.length_map] at io
      rw [List.getElem?_map, List.getElem?_eq_getElem io] at hy
      cases hy
      have s24 := s3.trans s4
      have mem : ys[i] ∈ L.names := pm.mem_iff.mp (List.getElem_mem io)
      obtain ⟨t, et⟩ := Lib.get_in mem
      rcases (hp2.same s24).get (n := ys[i]) with ⟨z, _⟩ | ⟨t', v, et', ev, ht⟩
      · rw [et] at z
        cases z
      rw [et] at et'
      cases et'
      have g : DGet H' d (.str ys[i]) (some v) := .inl ⟨kvs, Sum.inr ys[i], .inl (s24 _ _ hd2), rfl, ev.symm⟩
      have kl := hp1.len
      rw [Lib.pick, List.length_map, List.length_take] at kl
      have l8 : ys.length ≤ 8 := by
        rw [pm.length_eq, Lib.names, List.length_map]
        exact few
      refine ⟨rfl, tyes ?_⟩
      refine ⟨.str ys[i], rfl, .ref d, rfl, .str ys[i], rfl, d, v, rfl, g, _, Sum.inr ys[i], rfl, hD1, lt_line' (by omega), ks ++ [(Sum.inr ys[i], v)], ?_, ?_, s4.mut hD⟩
      · rw [upd_same, putK_new _ (hp1.pick_out (out_take yn io))]
      · have hh := held_dk (o := .dK (putK ks (Sum.inr ys[i]) v)) hD1
        rw [Lib.pick_next io et]
        exact (hp1.held hh).app (IsT.held hh _ _ ht)
    · obtain ⟨ks, hD1, hp1, s4⟩ := hP
      rw [List.length_map, List.take_length] at hp1
      have s24 := s3.trans s4
      have lp := Lib.pick_perm fine.nodup pm
      have fine' := fine.perm lp
      generalize hL : L.pick ys = L' at hp1 lp fine'
      have en : L'.names = ys := by rw [← hL]; exact Lib.pick_names
      have hxH := s24 _ _ (s02 _ _ hx)
      refine ⟨.ref x, rfl, x, C_Library, dx, _, rfl, hxH, T.k_Library, T.x_Library.n_parts, by decide, ?_⟩
      rw [show putF "_parts" (V.ref D) [] = [(("_parts" : Str), V.ref D)] from rfl]
      have k3 : HeldT H' (upd H' x (.ins C_Library dx [(("_parts" : Str), V.ref D)])) := heldT_at hxH (by show ¬ (none = some _); exact fun z => nomatch z)
      have o3 : Ext x H (upd H' x (.ins C_Library dx [(("_parts" : Str), V.ref D)])) := (Ext.same (s02.trans s24)).trans .set
      have hx3 : upd H' x (.ins C_Library dx [(("_parts" : Str), V.ref D)]) x = some (.ins C_Library dx [(("_parts" : Str), V.ref D)]) := upd_same
      have xD : D ≠ x := ne_of hD1 hxH (fun z => nomatch z)
      have hD3 : upd H' x (.ins C_Library dx [(("_parts" : Str), V.ref D)]) D = some (.dK ks) := (upd_ne xD).trans hD1
      generalize upd H' x (.ins C_Library dx [(("_parts" : Str), V.ref D)]) = H3 at k3 o3 hx3 hD3
      have hp3 := hp1.heldT k3
      clear hD1 hp1 s24 s4 hxH hd2 hp2 s3 s02 hD hpn Dd k3
      refine ⟨.ref x, rfl, x, C_Library, dx, _, .ref D, rfl, hx3, T.k_Library, T.x_Library.n_parts, rfl, D, ks, rfl, .inl hD3, fun p1 h1 => ?_⟩
      have ek : (ks.map fun kv => kV kv.1) = ys.map V.str := by
        have e := congrArg (List.map kV) hp3.keys
        rw [List.map_map, List.map_map, en] at e
        exact e
      rw [ek]
      have p1x : x ≠ p1 := ne_of_none hx3 h1
      have h4x : upd H3 p1 (.tup (ys.map V.str)) x = _ := (upd_ne p1x).trans hx3
      refine ⟨.ref x, rfl, x, C_Library, dx, _, rfl, h4x, T.k_Library, T.x_Library.n_names, by show 1 < 1000; decide, ?_⟩
      rw [putF_new "_names" (V.ref p1) [(("_parts" : Str), V.ref D)] (show ∀ g ∈ (["_parts"] : List Str), g ≠ "_names" by decide +kernel), List.cons_append, List.nil_append]
      have hD5 := (upd_ne (o := .ins C_Library dx [(("_parts" : Str), V.ref D), ("_names", .ref p1)]) xD).trans ((upd_ne (o := .tup (ys.map V.str)) (ne_of_none hD3 h1)).trans hD3)
      have hp15 := (upd_ne (H := upd H3 p1 (.tup (ys.map V.str))) (o := .ins C_Library dx [(("_parts" : Str), V.ref D), ("_names", .ref p1)]) p1x.symm).trans upd_same
      have hp5 := (hp3.same ((Same.refl H3).new (o := .tup (ys.map V.str)) h1)).heldT (heldT_at (o := .ins C_Library dx [(("_parts" : Str), V.ref D), ("_names", .ref p1)]) h4x (fun z => absurd (Option.some.inj (show some ("_parts" : Str) = some "_inputs" from z)) (by decide +kernel)))
      have o5 := (o3.new (o := .tup (ys.map V.str)) h1).trans (Ext.set (o := .ins C_Library dx [(("_parts" : Str), V.ref D), ("_names", .ref p1)]))
      have hx5 : upd (upd H3 p1 (.tup (ys.map V.str))) x (.ins C_Library dx [(("_parts" : Str), V.ref D), ("_names", .ref p1)]) x = some _ := upd_same
      generalize upd (upd H3 p1 (.tup (ys.map V.str))) x (.ins C_Library dx [(("_parts" : Str), V.ref D), ("_names", .ref p1)]) = H5 at hD5 hp15 hp5 o5 hx5
      clear h4x p1x h1 hp3 hD3 hx3 o3
      refine ⟨.ref x, rfl, x, C_Library, dx, _, .ref p1, rfl, hx5, T.k_Library, T.x_Library.n_names, rfl, p1, rfl, ⟨_, SqT.of hp15⟩, fun D2 hD2 => ?_⟩
      refine lc_tup (xs := ys.map V.str) (fun i H' => H' D2 = some (.lst (((L'.take i).map Lib.line).map V.str)) ∧ Same H5 H') ?_ (fun i H' _ hP => SqT.of (hP.2 _ _ hp15)) (fun i y H' hy hP => ?_) (fun H' hP => ?_)
      · exact ⟨by rw [upd_same, List.take_zero]; rfl, (Same.refl H5).mut hD2⟩
      · obtain ⟨hD6, s6⟩ := hP
        have io := lt_of_get hy
        rw [List.length_map] at io
        rw [List.getElem?_map, List.getElem?_eq_getElem io] at hy
        cases hy
        have el : L'[i]? = some (ys[i], (L'[i]'(by rw [← en, Lib.names, List.length_map] at io; exact io)).2) := by
          rw [List.getElem?_eq_getElem (by rw [← en, Lib.names, List.length_map] at io; exact io)]
          congr 1
          refine Prod.ext ?_ rfl
          subst en
          simp [Lib.names]
        generalize (L'[i]'(by rw [← en, Lib.names, List.length_map] at io; exact io)).2 = t at el
        have em := List.mem_of_getElem? el
        have ft : t.Fits := fine'.fits _ em
        have wn : Wd ys[i] := fine'.words _ em
        rcases (hp5.same s6).get (n := ys[i]) with ⟨z, _⟩ | ⟨t', v, et', ev, ht⟩
        · rw [show L'.get ys[i] = some t from Lib.get_mem fine'.nodup em] at z
          cases z
        rw [show L'.get ys[i] = some t from Lib.get_mem fine'.nodup em] at et'
        cases et'
        have g : DGet H' D (.str ys[i]) (some v) := .inl ⟨ks, Sum.inr ys[i], .inl (s6 _ _ hD5), rfl, ev.symm⟩
        obtain ⟨b, db, _, _, _, rfl, hb, _⟩ := ht.at
        refine ⟨rfl, tyes ?_⟩
        have tl := Ty.text_small ft.words ft.few
        have wl := isW_len wn.1
        have l1 := len_app Str.empty ys[i]
        have l2 := len_app (Str.empty ++ ys[i]) (" : " : Str)
        have l3 := len_app (Str.empty ++ ys[i] ++ (" : " : Str)) t.text
        rw [len_empty] at l1
        rw [len_colon] at l2
        have hx6 := s6 _ _ hx5
        have io8 : i < 8 := by
          have := fine'.few
          rw [← en, Lib.names, List.length_map] at io
          omega
        refine ⟨.str ys[i], rfl, .inl ⟨_, rfl, lt_line (by omega), _, rfl, lt_line (by omega), .inl ⟨" : ", rfl, lt_line (by rw [len_colon]; decide), _, rfl, lt_line (by omega), ?_⟩⟩⟩
        refine ⟨.ref x, rfl, x, C_Library, dx, _, .ref D, rfl, hx6, T.k_Library, T.x_Library.n_parts, rfl, .str ys[i], rfl, D, .ref b, rfl, g, b, db, _, rfl, hb, b, db, _, .str t.text, rfl, hb, rfl, .inl ⟨_, rfl, lt_line (by omega), _, rfl, lt_line (by omega), _, hD6, lt_line' ?_, ?_, s6.mut hD2⟩⟩
        · rw [List.length_map, List.length_map, List.length_take]
          omega
        · rw [upd_same, take_next el, List.map_append, List.map_append]
          rfl
      · obtain ⟨hD6, s6⟩ := hP
        rw [List.length_map, ← en, Lib.names, List.length_map, List.take_length] at hD6
        refine ⟨D2, _, rfl, .inl ⟨SqL.of hD6, fun l hl => ?_⟩⟩
        have s7 := s6.new (o := .tup (L'.lines.map V.str)) hl
        refine ⟨.ref x, rfl, x, C_Library, dx, _, rfl, s7 _ _ hx5, T.k_Library, T.x_Library.n_lines, by show 2 < 1000; decide, ?_⟩
        rw [putF_new "_lines" (V.ref l) [(("_parts" : Str), V.ref D), ("_names", .ref p1)] (show ∀ g ∈ (["_parts", "_names"] : List Str), g ≠ "_lines" by decide +kernel), List.cons_append, List.cons_append, List.nil_append]
        have xl : l ≠ x := (ne_of_none (s6 _ _ hx5) hl).symm
        have xp : p1 ≠ x := ne_of hp15 hx5 (fun z => nomatch z)
        refine q L' _ lp (by rw [en]; exact so) (o5.trans ((Ext.same s7).trans .set)) ⟨x, dx, D, p1, l, ks, rfl, upd_same, ?_, ?_, ?_, ?_⟩
        · rw [upd_ne xD]
          exact s7 _ _ hD5
        · exact (hp5.same s7).heldT (heldT_at (s7 _ _ hx5) (fun z => absurd (Option.some.inj (show some ("_parts" : Str) = some "_inputs" from z)) (by decide +kernel)))
        · rw [upd_ne xp, en]
          exact s7 _ _ hp15
        · rw [upd_ne xl]
          exact upd_same
end


end My
namespace My
open PySem PySem.Spec PyProof.Rows L2 TL
/-! ### the pieces of a joined text are what was joined -/
abbrev ARW : Str := " -> "
theorem arw_len : ARW.length = 4 := by decide +kernel
theorem arw_list : ARW.cps.toList = [32, 45, 62, 32] := by decide +kernel
theorem at_drop {x : Str} {k : Nat} : StrLaws.At x ARW x.length k ↔ (x.cps.toList.drop k).take 4 = [32, 45, 62, 32] := by
  unfold StrLaws.At
  rw [StrLaws.subAt_eq, arw_list, arw_len]
  constructor
  · exact fun h => eq_of_beq h.2
  · intro h
    have l := congrArg List.length h
    rw [List.length_take, List.length_drop] at l
    have l' : min 4 (x.cps.toList.length - k) = 4 := l
    exact ⟨by show k + 4 ≤ x.cps.size; rw [← Array.length_toList]; omega, by rw [h]; decide⟩
def glueL : List Str → List Nat
  | [] => []
  | [p] => p.cps.toList
  | p :: q :: r => p.cps.toList ++ ([32, 45, 62, 32] ++ glueL (q :: r))
theorem join_glueL : ∀ ps : List Str, (Txt.join ARW ps).cps.toList = glueL ps
  | [] => by decide +kernel
  | [p] => by
    show (Builtin.Str.glued ARW [p]).cps.toList = _
    rw [StrLaws.glued_eq_join]
    rfl
  | p :: q :: r => by
    have ih := join_glueL (q :: r)
    have e : Txt.join ARW (q :: r) = Str.join ARW (q :: r) := StrLaws.glued_eq_join _ _
    rw [e] at ih
    show (Builtin.Str.glued ARW (p :: q :: r)).cps.toList = _
    rw [StrLaws.glued_eq_join]
    show tl (p ++ ARW ++ Str.join ARW (q :: r)) = _
    rw [tl_append, tl_append]
    show p.cps.toList ++ ARW.cps.toList ++ (Str.join ARW (q :: r)).cps.toList = _
    rw [arw_list, ih, glueL, List.append_assoc]
theorem no_at {x : Str} {a : Nat} {p rest : List Nat} (h : x.cps.toList.drop a = p ++ ([32, 45, 62, 32] ++ rest)) (np : 62 ∉ p) {k : Nat} (h1 : a ≤ k) (h2 : k < a + p.length) : ¬ StrLaws.At x ARW x.length k := fun hA => by
  have hA := at_drop.mp hA
  obtain ⟨j, rfl⟩ := Nat.exists_eq_add_of_le h1
  rw [← List.drop_drop, h, List.drop_append_of_le_length (by omega)] at hA
  have sub : ∀ c ∈ p.drop j, c ∈ p := fun c hc => List.mem_of_mem_drop hc
  have len : 0 < (p.drop j).length := by rw [List.length_drop]; omega
  match hp : p.drop j, hA, len, sub with
  | [], _, l, _ => cases l
  | [c], hA, _, _ =>
    injection hA with _ t
    injection t with t _
    exact absurd t (by decide)
  | [c, d], hA, _, _ =>
    injection hA with _ t
    injection t with _ t
    injection t with t _
    exact absurd t (by decide)
  | c :: d :: e :: r, hA, _, sub =>
    injection hA with _ t
    injection t with _ t
    injection t with t _
    exact np (t ▸ sub e (by simp))
theorem no_at_end {x : Str} {a : Nat} {p : List Nat} (h : x.cps.toList.drop a = p) (np : 62 ∉ p) {k : Nat} (h1 : a ≤ k) : ¬ StrLaws.At x ARW x.length k := fun hA => by
  have hA := at_drop.mp hA
  obtain ⟨j, rfl⟩ := Nat.exists_eq_add_of_le h1
  rw [← List.drop_drop, h] at hA
  have m : 62 ∈ (p.drop j).take 4 := by rw [hA]; simp
  exact np (List.mem_of_mem_drop (List.mem_of_mem_take m))
theorem at_here {x : Str} {a : Nat} {p rest : List Nat} (h : x.cps.toList.drop a = p ++ ([32, 45, 62, 32] ++ rest)) : StrLaws.At x ARW x.length (a + p.length) := at_drop.mpr (by
  rw [← List.drop_drop, h, List.drop_left]
  rfl)
theorem str_list {x y : Str} (h : x.cps.toList = y.cps.toList) : x = y := by
  cases x
  cases y
  exact congrArg _ (Array.toList_inj.mp h)
theorem chain_one {x : Str} : ∀ (ps : List Str), ps ≠ [] → (∀ p ∈ ps, 62 ∉ p.cps.toList) → ∀ (a : Nat) (cuts : List Nat) (f : Nat), x.cps.toList.drop a = glueL ps → StrLaws.ChainG x ARW x.length a cuts f → (∀ k, f ≤ k → ¬ StrLaws.At x ARW x.length k) →
    StrLaws.partsFrom x ARW.length a cuts = ps
  | [], ne, _, _, _, _, _, _, _ => absurd rfl ne
  | [p], _, free, a, cuts, f, h, hG, hn => by
    have np := free p (List.mem_singleton.mpr rfl)
    cases cuts with
    | nil =>
      show [Builtin.Str.strSub x a x.length] = [p]
      refine congrArg (fun z => [z]) (str_list ?_)
      rw [StrLaws.strSub_toList, h, glueL]
      refine List.take_of_length_le ?_
      have l := congrArg List.length h
      rw [List.length_drop, glueL] at l
      show p.cps.toList.length ≤ x.cps.size - a
      rw [← Array.length_toList]
      omega
    | cons c r => exact absurd hG.2.1 (no_at_end h np hG.1)
  | p :: q :: r, _, free, a, cuts, f, h, hG, hn => by
    have np := free p (List.mem_cons_self ..)
    rw [glueL] at h
    have here := at_here h
    cases cuts with
    | nil =>
      have e : f = a := hG
      exact absurd here (hn _ (by omega))
    | cons c s =>
      obtain ⟨h1, h2, h3, h4⟩ := hG
      have ec : c = a + p.cps.toList.length := by
        rcases Nat.lt_trichotomy c (a + p.cps.toList.length) with z | z | z
        · exact absurd h2 (no_at h np h1 z)
        · exact z
        · exact absurd here (h3 _ (Nat.le_add_right _ _) z)
      have hd : x.cps.toList.drop (c + ARW.length) = glueL (q :: r) := by
        rw [ec, arw_len, ← List.drop_drop, ← List.drop_drop, h, List.drop_left]
        rfl
      have ih := chain_one (q :: r) (List.cons_ne_nil _ _) (fun z hz => free z (List.mem_cons_of_mem _ hz)) _ s f hd h4 hn
      show Builtin.Str.strSub x a c :: StrLaws.partsFrom x ARW.length (c + ARW.length) s = _
      rw [ih]
      refine congrArg (fun z => z :: q :: r) (str_list ?_)
      rw [StrLaws.strSub_toList, h, ec, Nat.add_sub_cancel_left, List.take_left]
theorem split_join {ps : List Str} (ne : ps ≠ []) (free : ∀ p ∈ ps, 62 ∉ p.cps.toList) : Txt.split (Txt.join ARW ps) ARW = ps := by
  generalize hx : Txt.join ARW ps = x
  have hd : x.cps.toList.drop 0 = glueL ps := by rw [List.drop_zero, ← hx, join_glueL]
  obtain ⟨f, hG, hn⟩ := StrLaws.occ_tight x ARW (by rw [arw_len]; decide)
  have key := chain_one ps ne free 0 _ f hd hG hn
  have whole : Builtin.Str.strSub x 0 x.length = x := by
    refine str_list ?_
    rw [StrLaws.strSub_toList, List.drop_zero, Nat.sub_zero]
    exact List.take_of_length_le (Nat.le_of_eq (Array.length_toList))
  unfold Txt.split
  split
  · rename_i hc
    have short : x.length < ARW.length := by
      rw [Bool.or_eq_true, decide_eq_true_eq, decide_eq_true_eq] at hc
      rcases hc with h | h
      · exact h
      · have k : Builtin.Str.strKind ARW = 1 := by decide +kernel
        rw [k] at h
        unfold Builtin.Str.strKind at h
        split at h
        · omega
        · split at h <;> omega
    cases e : Builtin.Str.occurrences x ARW 0 x.length (x.length + 1) with
    | nil =>
      rw [e] at key
      rw [← key]
      exact congrArg (fun z => [z]) whole.symm
    | cons c r =>
      rw [e] at hG
      have := hG.2.1.1
      omega
  · split
    · rename_i he
      rw [List.isEmpty_iff.mp he] at key
      rw [← key]
      exact congrArg (fun z => [z]) whole.symm
    · rw [StrLaws.partsBetween_eq]
      exact key


end My
namespace My
open PySem PySem.Spec PyProof.Rows L2 TL
set_option pp.maxSteps 400
set_option pp.deepTerms false
/-! ### what stands between the arrows -/
abbrev ARR : Str := " -> "
/-- the pieces, those begun, how deep -/
abbrev PSt := List Str × List Str × Int
def pStep (s : PSt) (p : Str) : PSt :=
  if s.2.2 + ((Txt.count p "(" : Int) - (Txt.count p ")" : Int)) = 0 then (s.1 ++ [Txt.join ARR (s.2.1 ++ [p])], [], s.2.2 + ((Txt.count p "(" : Int) - (Txt.count p ")" : Int)))
  else (s.1, s.2.1 ++ [p], s.2.2 + ((Txt.count p "(" : Int) - (Txt.count p ")" : Int)))
def pRun (ps : List Str) : PSt := ps.foldl pStep ([], [], 0)
def piecesOf (x : Str) : List Str := (pRun (Txt.split x ARR)).1 ++ if (pRun (Txt.split x ARR)).2.1 = [] then [] else [Txt.join ARR (pRun (Txt.split x ARR)).2.1]
/-- the text and its pieces are not too long -/
def Small (x : Str) : Prop := x.length ≤ 100000 ∧ (Txt.split x ARR).length ≤ 100000 ∧ ((Txt.split x ARR).map (·.length)).sum ≤ 100000
theorem pRun_next (ps : List Str) (p : Str) : pRun (ps ++ [p]) = pStep (pRun ps) p := by
  unfold pRun
  rw [List.foldl_append]
  rfl
theorem pRun_small : ∀ (n : Nat) (ps : List Str), ps.length = n → ((pRun ps).2.1.map (·.length)).sum ≤ (ps.map (·.length)).sum ∧ (pRun ps).2.1.length ≤ ps.length ∧ (pRun ps).1.length ≤ ps.length
  | 0, ps, h => by
    rw [List.length_eq_zero_iff.mp h]
    exact ⟨Nat.le_refl _, Nat.le_refl _, Nat.le_refl _⟩
  | n + 1, ps, h => by
    obtain ⟨qs, p, rfl⟩ : ∃ qs p, ps = qs ++ [p] := ⟨ps.dropLast, ps.getLast (fun e => by rw [e] at h; cases h), (List.dropLast_concat_getLast _).symm⟩
    rw [List.length_append] at h
    obtain ⟨a, b, c⟩ := pRun_small n qs (Nat.succ.inj h)
    rw [pRun_next]
    unfold pStep
    split
    · simp only [List.map_append, List.sum_append, List.length_append, List.map_nil, List.sum_nil, List.length_nil, List.length_cons, List.map_cons, List.sum_cons]
      omega
    · simp only [List.map_append, List.sum_append, List.length_append, List.map_nil, List.sum_nil, List.length_nil, List.length_cons, List.map_cons, List.sum_cons]
      omega
theorem sum_take (ps : List Str) (i : Nat) : ((ps.take i).map (·.length)).sum ≤ (ps.map (·.length)).sum := by
  have e : (ps.map (·.length)).sum = ((ps.take i).map (·.length)).sum + ((ps.drop i).map (·.length)).sum := by
    rw [← List.sum_append, ← List.map_append, List.take_append_drop]
  omega
def sp__pieces (_ : PySem.W.Frag) : Sp := fun vs H Q _ => ∃ x, vs = [.str x] ∧ Small x ∧ ∀ p H', Same H H' → H' p = some (.lst ((piecesOf x).map V.str)) → Q (.ref p) H'
section
variable {P : Program} {w : World} {K : PySem.W.Frag} {mg : Str → Option Value} {base : Heap} {C_Type : Addr}
theorem ok__pieces (T : Txt K mg C_Type C_Library) {f : Addr} {fd : FuncData} (F : Fun K "_pieces" "_pieces" s__pieces f fd) : FnOk P w K mg base CX0 1 f fd ["text"] (sp__pieces K) := by
  have nd := sc__pieces.nd
  refine F.ok sc__pieces (fun vs H Q E h => ?_) (fun cdv A outer s H vs Q E hr h => ?_)
  · obtain ⟨x, rfl, _⟩ := h
    rfl
  · obtain ⟨x, rfl, ⟨x1, x2, x3⟩, q⟩ := h
    refine ⟨_, (pss_cons (ps_set (i := 1) nd rfl (.inl rfl) (pe_lst pa_nil))
      (pss_cons (ps_set (i := 2) nd rfl (.inl rfl) (pe_lst pa_nil))
      (pss_cons (ps_set (i := 3) nd rfl (.inl rfl) pe_int)
      (pss_cons (ps_for PassesOwn.never rfl (pi_list (pe_split (pv 0) (pe_globE rfl T.g__ARROW))) (pg_name (i := 4) nd rfl (.inl rfl)) (pss_cons (ps_expr (pe_bm PySem.F.plainAttrs_list PySem.F.slot_list_append PySem.F.type_list_append mt_append (pv 2) (pa_cons (pv 4) pa_nil)))
      (pss_cons (ps_aug (i := 3) nd rfl (.inl rfl) (pe_op op_sub (pe_m1 PySem.F.slot_str_count PySem.F.type_str_count mt_count (pv 4) pe_str) (pe_m1 PySem.F.slot_str_count PySem.F.type_str_count mt_count (pv 4) pe_str)) ip_add)
      (pss_one (ps_if (pt_cmpR op_eq (pv 3) pe_int (nomark _)) (pss_cons (ps_expr (pe_bm PySem.F.plainAttrs_list PySem.F.slot_list_append PySem.F.type_list_append mt_append (pv 1) (pa_cons (pe_join (pe_globE rfl T.g__ARROW) (pv 2)) pa_nil)))
      (pss_one (ps_set (i := 2) nd rfl (.inl rfl) (pe_lst pa_nil)))) pss_nil)))))
      (pss_cons (ps_if (pt_truth (pv 2) (by intro _; rfl)) (pss_one (ps_expr (pe_bm PySem.F.plainAttrs_list PySem.F.slot_list_append PySem.F.type_list_append mt_append (pv 1) (pa_cons (pe_join (pe_globE rfl T.g__ARROW) (pv 2)) pa_nil)))) pss_nil)
      (pss_one (ps_ret (pv 1)))))))), ?_⟩
    refine ⟨Nat.zero_le _, fun dp hdp => ?_⟩
    refine ⟨Nat.zero_le _, fun db hdb => ?_⟩
    refine asg_go2 ?_
    dsimp only
    have nE : db ≠ dp := fun e => by
      rw [e, upd_same] at hdb
      cases hdb
    change gName 3 (V.int 0) _ _ _
    refine asg_go2 ?_
    dsimp only
    refine ⟨.str x, rfl, ⟨x, rfl⟩, x, ARR, rfl, rfl, by decide +kernel, lt_line (by omega), fun ds hds => ?_⟩
    refine ⟨ds, rfl, ⟨_, SqL.of upd_same⟩, ?_⟩
    have s0 : Same H (upd (upd (upd H dp (.lst [])) db (.lst [])) ds (.lst ((Txt.split x ARR).map V.str))) := (((Same.refl H).new hdp).new hdb).new hds
    have h1 : upd (upd (upd H dp (.lst [])) db (.lst [])) ds (.lst ((Txt.split x ARR).map V.str)) dp = some (.lst []) := by
      have e : upd (upd H dp (.lst [])) db (.lst []) dp = some (.lst []) := by rw [upd_ne (Ne.symm nE), upd_same]
      rw [upd_ne (ne_of_none e hds)]
      exact e
    have h2 : upd (upd (upd H dp (.lst [])) db (.lst [])) ds (.lst ((Txt.split x ARR).map V.str)) db = some (.lst []) := by
      rw [upd_ne (ne_of_none upd_same hds), upd_same]
    have n1 : ds ≠ dp := fun e => by
      rw [e, upd_ne (Ne.symm nE), upd_same] at hds
      cases hds
    have n2 : ds ≠ db := fun e => by
      rw [e, upd_same] at hds
      cases hds
    have h3 : upd (upd (upd H dp (.lst [])) db (.lst [])) ds (.lst ((Txt.split x ARR).map V.str)) ds = some (.lst ((Txt.split x ARR).map V.str)) := upd_same
    generalize upd (upd (upd H dp (.lst [])) db (.lst [])) ds (.lst ((Txt.split x ARR).map V.str)) = G at s0 h1 h2 h3 ⊢
    have nb : H db = none := by
      rw [upd_ne nE] at hdb
      exact hdb
    clear hds hdb
    generalize eps : Txt.split x ARR = ps at h3 x2 x3 ⊢
    refine for_list (xs := ps.map V.str) (fun i σ H' => ∃ db s4, σ = [some (.str x), some (.ref dp), some (.ref db), some (.int (pRun (ps.take i)).2.2), s4] ∧ H' dp = some (.lst ((pRun (ps.take i)).1.map V.str)) ∧ H' db = some (.lst ((pRun (ps.take i)).2.1.map V.str)) ∧
      db ≠ dp ∧ ds ≠ db ∧ H db = none ∧ H' ds = some (.lst (ps.map V.str)) ∧ Same H H') ?_ (fun i σ H' _ hP => ?_) (fun i y σ H' hy hP => ?_) (fun σ H' hP => ?_)
    · exact ⟨db, none, rfl, h1, h2, nE, n2, nb, h3, s0⟩
    · obtain ⟨_, _, _, _, _, _, _, _, e, _⟩ := hP
      exact SqL.of e
    · obtain ⟨db', s4, rfl, hp1, hb1, ne1, ne2, fr, hs1, sm⟩ := hP
      rw [List.getElem?_map] at hy
      obtain ⟨pc, hpc, rfl⟩ := Option.map_eq_some_iff.mp hy
      have io := lt_of_get hpc
      obtain ⟨z1, z2, z3⟩ := pRun_small _ (ps.take i) rfl
      have z4 := sum_take ps i
      rw [List.length_take] at z2 z3
      have nx := pRun_next (ps.take i) pc
      rw [← take_next hpc] at nx
      generalize pRun (ps.take i) = S at hp1 hb1 z1 z2 z3 nx ⊢
      refine asg_go2 ?_
      dsimp only
      refine ⟨.ref db', rfl, .inl ⟨rfl, _, SqL.of hb1⟩, .str pc, rfl, db', _, _, rfl, rfl, hb1, lt_line' (by rw [List.length_map]; omega), ?_⟩
      dsimp only
      refine ⟨.int S.2.2, rfl, .str pc, rfl, ⟨pc, rfl⟩, pc, "(", rfl, rfl, .str pc, rfl, ⟨pc, rfl⟩, pc, ")", rfl, rfl, _, _, rfl, rfl, _, _, rfl, rfl, ?_⟩
      dsimp only
      have hp2 : upd H' db' (.lst (S.2.1.map V.str ++ [V.str pc])) dp = some (.lst (S.1.map V.str)) := by rw [upd_ne (Ne.symm ne1)]; exact hp1
      have hs2 : upd H' db' (.lst (S.2.1.map V.str ++ [V.str pc])) ds = some (.lst (ps.map V.str)) := by rw [upd_ne ne2]; exact hs1
      have hb2 : upd H' db' (.lst (S.2.1.map V.str ++ [V.str pc])) db' = some (.lst ((S.2.1 ++ [pc]).map V.str)) := by rw [upd_same, List.map_append]; rfl
      have sm2 := sm.mut (o := .lst (S.2.1.map V.str ++ [V.str pc])) fr
      generalize upd H' db' (.lst (S.2.1.map V.str ++ [V.str pc])) = G2 at hp2 hs2 hb2 sm2 ⊢
      unfold pStep at nx
      refine ⟨.int (S.2.2 + (Txt.count pc "(" - Txt.count pc ")")), rfl, rfl, _, rfl, ite2 (fun c => ?_) (fun c => ?_)⟩
      · have c0 : S.2.2 + (Txt.count pc "(" - Txt.count pc ")") = 0 := V.int.inj (of_decide_eq_true c)
        rw [if_pos c0] at nx
        have zs : (((S.2.1 ++ [pc]).map (·.length)).sum + (S.2.1 ++ [pc]).length * ARR.length) ≤ 16777216 := by
          have e1 : ARR.length = 4 := by decide +kernel
          have e2 : ((ps.take (i + 1)).map (·.length)).sum = ((ps.take i).map (·.length)).sum + pc.length := by
            rw [take_next hpc, List.map_append, List.sum_append]
            rfl
          have e3 := sum_take ps (i + 1)
          rw [e1, List.map_append, List.sum_append, List.length_append]
          show _ + (pc.length + 0) + (_ + 1) * 4 ≤ _
          omega
        refine ⟨.ref dp, rfl, .inl ⟨rfl, _, SqL.of hp2⟩, ⟨_, rfl⟩, .ref db', rfl, ARR, db', S.2.1 ++ [pc], rfl, rfl, .inl (SqL.of hb2), zs, dp, _, _, rfl, rfl, hp2, lt_line' (by rw [List.length_map]; omega), ?_⟩
        refine ⟨Nat.zero_le _, fun db2 hdb2 => ?_⟩
        refine asg_go2 ?_
        have d2 : db2 ≠ dp := fun e => by
          rw [e, upd_same] at hdb2
          cases hdb2
        have d3 : G2 db2 = none := by
          rw [upd_ne d2] at hdb2
          exact hdb2
        have d4 : ds ≠ db2 := fun e => by
          rw [← e, hs2] at d3
          cases d3
        refine ⟨db2, some (.str pc), ?_, ?_, ?_, d2, d4, sm2.free d3, ?_, (sm2.mut hdp).new hdb2⟩
        · rw [nx]
          rfl
        · rw [nx, upd_ne (Ne.symm d2), upd_same, List.map_append]
          rfl
        · rw [nx, upd_same]
          rfl
        · rw [upd_ne d4, upd_ne n1]
          exact hs2
      · have c0 : ¬ S.2.2 + (Txt.count pc "(" - Txt.count pc ")") = 0 := fun e => c (by rw [e]; exact decide_eq_true rfl)
        rw [if_neg c0] at nx
        refine nx_go ?_
        refine ⟨db', some (.str pc), ?_, ?_, ?_, ne1, ne2, fr, hs2, sm2⟩
        · rw [nx]
          rfl
        · rw [nx]
          exact hp2
        · rw [nx]
          exact hb2
    · obtain ⟨db', s4, rfl, hp1, hb1, ne1, ne2, fr, hs1, sm⟩ := hP
      rw [List.length_map, List.take_length] at hp1 hb1 ⊢
      have ep : piecesOf x = (pRun ps).1 ++ if (pRun ps).2.1 = [] then [] else [Txt.join ARR (pRun ps).2.1] := by
        unfold piecesOf
        rw [eps]
      obtain ⟨z1, z2, z3⟩ := pRun_small _ ps rfl
      generalize pRun ps = S at hp1 hb1 z1 z2 z3 ep ⊢
      dsimp only
      refine ⟨.ref db', rfl, _, .inl ⟨_, SqL.of hb1, rfl⟩, ?_⟩
      cases hS : S.2.1 with
      | nil =>
        rw [hS, if_pos rfl, List.append_nil] at ep
        refine iteF ?_
        refine nx_go ?_
        dsimp only
        rw [← ep] at hp1
        exact ⟨.ref dp, rfl, q dp _ sm hp1⟩
      | cons a l =>
        rw [if_neg (by rw [hS]; exact fun e => nomatch e)] at ep
        refine iteT ?_
        have e1 : ARR.length = 4 := by decide +kernel
        refine ⟨.ref dp, rfl, .inl ⟨rfl, _, SqL.of hp1⟩, ⟨_, rfl⟩, .ref db', rfl, ARR, db', S.2.1, rfl, rfl, .inl (SqL.of hb1), by rw [e1]; omega, dp, _, _, rfl, rfl, hp1, lt_line' (by rw [List.length_map]; omega), ?_⟩
        dsimp only
        refine ⟨.ref dp, rfl, q dp _ (sm.mut hdp) ?_⟩
        rw [upd_same, ep, List.map_append]
        rfl
end


end My
namespace My
open PySem PySem.Spec PyProof.Rows L2 TL
set_option pp.maxSteps 400
set_option pp.deepTerms false
/-! ### a type read from its text -/
def inner (p : Str) : Str := cutS p (some 1) (some (-1))
theorem cut_last (xs : List V) (v : V) : cutV (xs ++ [v]) none (some (-1)) = xs := by
  unfold cutV
  have l : (xs ++ [v]).length = xs.length + 1 := by rw [List.length_append]; rfl
  have e : HT.sIx (xs ++ [v]).length (xs ++ [v]).length (some (-1)) = xs.length := by
    unfold HT.sIx
    rw [l]
    dsimp only
    rw [if_pos (by decide)]
    omega
  rw [e, HT.sIx_none, List.drop_zero, Nat.sub_zero, List.take_append_of_le_length (Nat.le_refl _), List.take_length]
mutual
/-- the text is read as the type, nested no deeper -/
inductive Reads : Nat → Str → Ty → Prop
  | mk {d : Nat} {x a : Str} {qs : List Str} {l : List Ty} (sm : Small x) (pc : piecesOf x = qs ++ [a]) (rl : ReadsL d qs l) (fit : (Ty.mk l a).Fits) : Reads d x (.mk l a)
/-- a piece is read as the type -/
inductive ReadsP : Nat → Str → Ty → Prop
  | open_ {d : Nat} {p : Str} {t : Ty} (len : p.length ≤ 100000) (s : Txt.startswith p "(" = true) (e : Txt.endswith p ")" = true) (r : Reads d (inner p) t) : ReadsP (d + 1) p t
  | plain {d : Nat} {p : Str} (h : d = 0 ∨ Txt.startswith p "(" = false ∨ Txt.endswith p ")" = false) (fit : (Ty.mk [] p).Fits) : ReadsP d p (.mk [] p)
inductive ReadsL : Nat → List Str → List Ty → Prop
  | nil {d : Nat} : ReadsL d [] []
  | cons {d : Nat} {p : Str} {qs : List Str} {t : Ty} {l : List Ty} (r : ReadsP d p t) (rl : ReadsL d qs l) : ReadsL d (p :: qs) (t :: l)
end
theorem ReadsL.len : ∀ {d : Nat} {qs : List Str} {l : List Ty}, ReadsL d qs l → qs.length = l.length
  | _, _, _, .nil => rfl
  | _, _, _, .cons _ rl => congrArg (· + 1) (ReadsL.len rl)
theorem ReadsL.get : ∀ {d : Nat} {qs : List Str} {l : List Ty} {i : Nat} {p : Str}, ReadsL d qs l → qs[i]? = some p → ∃ t, l[i]? = some t ∧ ReadsP d p t
  | _, _, _, _, _, .nil, e => by cases e
  | _, _, _, 0, _, .cons r _, e => by cases e; exact ⟨_, rfl, r⟩
  | _, _, _, i + 1, _, .cons _ rl, e => ReadsL.get (i := i) rl e
def spr__read_freely (n : Nat) (_ : PySem.W.Frag) (C : Addr) : Sp := fun vs H Q _ => ∃ x t, ∃ d : Nat, vs = [.str x, .int d] ∧ d < n ∧ d ≤ 1000 ∧ Reads d x t ∧ Made C H Q t
def spr__read_piece (n : Nat) (_ : PySem.W.Frag) (C : Addr) : Sp := fun vs H Q _ => ∃ x t, ∃ d : Nat, vs = [.str x, .int d] ∧ d < n ∧ d ≤ 1000 ∧ ReadsP d x t ∧ Made C H Q t
section
variable {P : Program} {w : World} {K : PySem.W.Frag} {mg : Str → Option Value} {base : Heap} {C_Type : Addr}
theorem ok__read_both (T : Txt K mg C_Type C_Library) (i_Type___init__ : MakC P w K mg base C_Type 4 ["self", "inputs", "atom"] (sp_Type___init__ K C_Type)) (c__pieces : CalN P w K mg base "_pieces" 1 ["text"] (sp__pieces K)) (k_Type_plain : CmtC P w K mg base C_Type "plain" 6 ["cls", "atom"] (sp_Type_plain K C_Type))
    {f f2 : Addr} {fd fd2 : FuncData} (F : Fun K "_read_freely" "_read_freely" s__read_freely f fd) (M : mg "_read_freely" = some (.ref f)) (B : Binds K fd ["text", "depth"] [])
    (F2 : Fun K "_read_piece" "_read_piece" s__read_piece f2 fd2) (M2 : mg "_read_piece" = some (.ref f2)) (B2 : Binds K fd2 ["piece", "depth"] []) :
    ∀ n : Nat, FnOk P w K mg base CX0 (7 + 2 * n) f fd ["text", "depth"] (spr__read_freely n K C_Type) ∧ FnOk P w K mg base CX0 (8 + 2 * n) f2 fd2 ["piece", "depth"] (spr__read_piece (n + 1) K C_Type) := by
  have piece : ∀ n, FnOk P w K mg base CX0 (7 + 2 * n) f fd ["text", "depth"] (spr__read_freely n K C_Type) → FnOk P w K mg base CX0 (8 + 2 * n) f2 fd2 ["piece", "depth"] (spr__read_piece (n + 1) K C_Type) := fun n ih => by
    have c__read_freely : CalN P w K mg base "_read_freely" (7 + 2 * n) ["text", "depth"] (spr__read_freely n K C_Type) := ⟨_, _, ih, M, F.kp, B⟩
    have nd := sc__read_piece.nd
    rw [show 8 + 2 * n = (7 + 2 * n) + 1 by omega]
    refine F2.ok (k := 7 + 2 * n) sc__read_piece (fun vs H Q E h => ?_) (fun cdv A outer s H vs Q E hr h => ?_)
    · obtain ⟨x, t, d, rfl, _⟩ := h
      rfl
    · obtain ⟨x, t, d, rfl, lo, d1, r, q⟩ := h
      refine ⟨_, (pss_cons (ps_if (PW.pt (pw_and (pt_cmpR op_gt (pv 1) pe_int (nomark _)) (pw_and (pt_val (pe_m1 PySem.F.slot_str_startswith PySem.F.type_str_startswith mt_startswith (pv 0) pe_str)) (pw_and1 (pt_val (pe_m1 PySem.F.slot_str_endswith PySem.F.type_str_endswith mt_endswith (pv 0) pe_str)))))) (pss_one (ps_ret (pe_callN c__read_freely (hr.mono (by first | decide | omega)) rfl (pa_cons (pe_slice sl_str (pv 0) (po_some pe_int) (po_some (pe_un un_neg pe_int))) (pa_cons (pe_op op_sub (pv 1) pe_int) pa_nil))))) pss_nil)
      (pss_one (ps_ret (pe_cmethC k_Type_plain (hr.mono (by first | decide | omega)) (pe_glob (v := .ref C_Type) rfl T.c_Type rfl) (pa_cons (pv 0) pa_nil))))), ?_⟩
      cases r with
      | @open_ d' _ _ len sw ew r =>
        refine ⟨.int ((d' + 1 : Nat) : Int), rfl, _, _, rfl, rfl, true, congrArg V.bl (decide_eq_true (by omega)), iteT ?_⟩
        refine ⟨.str x, rfl, ⟨_, rfl⟩, x, "(", rfl, rfl, true, congrArg V.bl sw, iteT ?_⟩
        refine ⟨.str x, rfl, ⟨_, rfl⟩, x, ")", rfl, rfl, true, congrArg V.bl ew, iteT ?_⟩
        refine ⟨.str x, rfl, 1, rfl, 1, rfl, _, rfl, x, rfl, lt_line (by omega), .int ((d' + 1 : Nat) : Int), rfl, _, _, rfl, rfl, ?_⟩
        exact ⟨inner x, t, d', congrArg (fun i => [V.str (inner x), V.int i]) (by omega), by omega, by omega, r, q⟩
      | plain h fit =>
        refine ⟨.int (d : Int), rfl, _, _, rfl, rfl, _, rfl, ite2 (fun c => ?_) (fun c => ?_)⟩
        · have c0 : d ≠ 0 := by
            have := of_decide_eq_true c
            omega
          refine ⟨.str x, rfl, ⟨_, rfl⟩, x, "(", rfl, rfl, _, rfl, ite2 (fun c2 => ?_) (fun c2 => ?_)⟩
          · have he : Txt.endswith x ")" = false := by
              rcases h with h | h | h
              · exact absurd h c0
              · rw [h] at c2
                cases c2
              · exact h
            refine ⟨.str x, rfl, ⟨_, rfl⟩, x, ")", rfl, rfl, false, congrArg V.bl he, iteF ?_⟩
            refine nx_go ?_
            exact ⟨rfl, .str x, rfl, x, rfl, fit, q⟩
          · refine iteF ?_
            refine nx_go ?_
            exact ⟨rfl, .str x, rfl, x, rfl, fit, q⟩
        · refine iteF ?_
          refine nx_go ?_
          exact ⟨rfl, .str x, rfl, x, rfl, fit, q⟩
  have freely : ∀ n, FnOk P w K mg base CX0 (8 + 2 * n) f2 fd2 ["piece", "depth"] (spr__read_piece (n + 1) K C_Type) → FnOk P w K mg base CX0 (7 + 2 * (n + 1)) f fd ["text", "depth"] (spr__read_freely (n + 1) K C_Type) := fun n ih => by
    have c__read_piece : CalN P w K mg base "_read_piece" (8 + 2 * n) ["piece", "depth"] (spr__read_piece (n + 1) K C_Type) := ⟨_, _, ih, M2, F2.kp, B2⟩
    have nd := sc__read_freely.nd
    rw [show 7 + 2 * (n + 1) = (8 + 2 * n) + 1 by omega]
    refine F.ok (k := 8 + 2 * n) sc__read_freely (fun vs H Q E h => ?_) (fun cdv A outer s H vs Q E hr h => ?_)
    · obtain ⟨x, t, d, rfl, _⟩ := h
      rfl
    · obtain ⟨x, t, d, rfl, lo, d1, r, q⟩ := h
      refine ⟨_, (pss_cons (ps_set (i := 2) nd rfl (.inl rfl) (pe_callN c__pieces (hr.mono (by first | decide | omega)) rfl (pa_cons (pv 0) pa_nil)))
      (pss_cons (ps_setLcD (i := 3) (own := [("piece", 4)]) (by rfl) nd rfl rfl (sw_true rfl rfl rfl (by decide +kernel)) (pi_list (pe_slice sl_list (pv 2) po_none (po_some (pe_un un_neg pe_int)))) (blkOk_by (own := [("piece", 4)]) (N := ["text", "depth", "pieces", "inputs", "piece"]) (sc := (defScope s__read_freely)) (by decide +kernel)) (fun _ _ _ _ _ => pg_name (i := 4) nd rfl (Or.inl rfl)) (fun _ _ _ _ _ => pts_nil) (fun _ _ _ _ _ => (pe_callN c__read_piece (hr.mono (by first | decide | omega)) rfl (pa_cons (pv 4) (pa_cons (pv 1) pa_nil)))))
      (pss_one (ps_ret (pe_makeC i_Type___init__ (hr.mono (by first | decide | omega)) rfl T.c_Type (pa_cons (pe_callTy call_tuple_of (by rfl) T.b_tuple (by decide +kernel) (pa_cons (pv 3) pa_nil)) (pa_cons (pe_ix ix_list (pv 2) (pe_un un_neg pe_int) (fun _ _ => rfl)) pa_nil))))))), ?_⟩
      cases r with
      | @mk _ _ a qs l sm pc rl fit =>
        refine ⟨.str x, rfl, x, rfl, sm, fun p H1 s1 hp => ?_⟩
        refine asg_go2 ?_
        dsimp only
        rw [pc, List.map_append] at hp
        have ql := rl.len
        have few := Fits_ins_len fit
        have few : l.length ≤ 14 := few
        refine cut_set (fun v H' => ∃ D rs', v = .ref D ∧ H' D = some (.lst rs') ∧ IsTs C_Type H' l rs' ∧ Same H1 H') (fun Q' q' => ?_) ?_
        · refine ⟨.ref p, rfl, 1, rfl, _, rfl, p, _, rfl, SqL.of hp, fun p2 hp2 => ?_⟩
          refine ⟨p2, rfl, ⟨_, SqL.of upd_same⟩, fun D hD => ?_⟩
          have e2 : upd H1 p2 (.lst (cutV (qs.map V.str ++ [a].map V.str) none (some (-1)))) p2 = some (.lst (qs.map V.str)) := by
            rw [upd_same]
            exact congrArg (fun z => some (HO.lst z)) (cut_last (qs.map V.str) (.str a))
          have s2 : Same H1 (upd H1 p2 (.lst (cutV (qs.map V.str ++ [a].map V.str) none (some (-1))))) := (Same.refl H1).new hp2
          have nD1 : H1 D = none := s2.free hD
          refine lc_list (xs := qs.map V.str) (fun i H' => ∃ rs', H' D = some (.lst rs') ∧ IsTs C_Type H' (l.take i) rs' ∧ Same H1 H' ∧ H' p2 = some (.lst (qs.map V.str))) ?_ (fun i H' _ hP => ?_) (fun i y H' hy hP => ?_) (fun H' hP => ?_)
          · exact ⟨[], upd_same, by rw [List.take_zero]; exact IsTs.nil, s2.new hD, by rw [upd_ne (ne_of_none e2 hD)]; exact e2⟩
          · obtain ⟨_, _, _, _, e⟩ := hP
            exact SqL.of e
          · obtain ⟨rs', hD1, hl1, sm1, e3⟩ := hP
            rw [List.getElem?_map] at hy
            obtain ⟨pz, hpz, rfl⟩ := Option.map_eq_some_iff.mp hy
            obtain ⟨u, eu, ru⟩ := rl.get hpz
            have io := lt_of_get hpz
            refine ⟨rfl, tyes ?_⟩
            refine ⟨.str pz, rfl, .int (d : Int), rfl, pz, u, d, rfl, lo, d1, ru, fun z H5 s5 hz => ?_⟩
            have hD5 := s5 _ _ hD1
            have h3 : Held H5 (upd H5 D (.lst (rs' ++ [.ref z]))) := held_lst hD5
            refine ⟨rs', hD5, lt_line' (by rw [hl1.len, List.length_take]; omega), rs' ++ [.ref z], upd_same, ?_, (sm1.trans s5).mut nD1, ?_⟩
            · rw [take_next eu]
              exact (IsTs.held h3 _ _ (IsTs.same s5 _ _ hl1)).app (.cons (IsT.held h3 _ _ hz) .nil)
            · have np : p2 ≠ D := fun e => by
                rw [← e, e2] at hD
                cases hD
              rw [upd_ne np]
              exact s5 _ _ e3
          · obtain ⟨rs', hD1, hl1, sm1, e3⟩ := hP
            rw [List.length_map, ql, List.take_length] at hl1
            exact q' _ _ ⟨D, rs', rfl, hD1, hl1, sm1⟩
        rintro v H2 ⟨D, rs', rfl, hD, hl2, s2⟩
        refine ⟨.ref D, rfl, D, rs', rfl, .inl ⟨SqL.of hD, fun l9 hl9 => ?_⟩⟩
        have s9 := s2.new (o := .tup rs') hl9
        refine ⟨.ref p, rfl, 1, rfl, p, _, _, .str a, rfl, rfl, SqL.of (s9 _ _ hp), atI_last _ _, ?_⟩
        exact make_ty upd_same (IsTs.same ((Same.refl H2).new hl9) _ _ hl2) fit fun z H' s h => q z H' ((s1.trans s9).trans s) h
  intro n
  induction n with
  | zero =>
    have a : FnOk P w K mg base CX0 (7 + 2 * 0) f fd ["text", "depth"] (spr__read_freely 0 K C_Type) := by
      refine F.ok sc__read_freely (fun vs H Q E h => ?_) (fun cdv A outer s H vs Q E hr h => ?_) <;> (obtain ⟨_, _, _, _, z, _⟩ := h; exact absurd z (Nat.not_lt_zero _))
    exact ⟨a, piece 0 a⟩
  | succ n ih =>
    have a := freely n ih.2
    exact ⟨a, piece (n + 1) a⟩
end


end My
namespace My
open PySem PySem.Spec PyProof.Rows L2 TL
set_option pp.maxSteps 400
set_option pp.deepTerms false
/-! ### Type.read -/
def sp_Type_read (_ : PySem.W.Frag) (C : Addr) : Sp := fun vs H Q _ => ∃ x t, vs = [.ref C, .str x] ∧ Reads 4 x t ∧ t.text = x ∧ Made C H Q t
def sp__read_freely (K : PySem.W.Frag) (C : Addr) : Sp := spr__read_freely 5 K C
section
variable {P : Program} {w : World} {K : PySem.W.Frag} {mg : Str → Option Value} {base : Heap} {C_Type : Addr}
theorem ok_Type_read (T : Txt K mg C_Type C_Library) (c__read_freely : CalN P w K mg base "_read_freely" 17 ["text", "depth"] (sp__read_freely K C_Type)) (p_Type_text : PrpC P w K mg base C_Type "text" 1 ["self"] (getSp C_Type "_text")) {f : Addr} {fd : FuncData} (F : Fun K "read" "Type.read" s_Type_read f fd) : FnOk P w K mg base CX0 18 f fd ["cls", "text"] (sp_Type_read K C_Type) := by
  have nd := sc_Type_read.nd
  refine F.ok sc_Type_read (fun vs H Q E h => ?_) (fun cdv A outer s H vs Q E hr h => ?_)
  · obtain ⟨x, t, rfl, _⟩ := h
    rfl
  · obtain ⟨x, t, rfl, r, e, q⟩ := h
    refine ⟨_, (pss_cons (ps_if (pt_not (pt_val (pe_callB call_isi (by rfl) T.b_isinstance (by decide +kernel) (pa_cons (pv 1) (pa_cons (pe_bltn (v := .ty "str") (u := .type "str") (by rfl) T.b_str (by decide +kernel) rfl) pa_nil))))) (pss_one ps_never) pss_nil)
      (pss_cons (ps_try_thru0 (pss_one (ps_set (i := 2) nd rfl (.inl rfl) (pe_callN c__read_freely (hr.mono (by first | decide | omega)) rfl (pa_cons (pv 1) (pa_cons (pe_globE rfl T.g_MAX_ORDER) pa_nil))))))
      (pss_cons (ps_if (pt_cmpR op_ne (pe_propC p_Type_text T.k_Type (hr.mono (by first | decide | omega)) (pv 2)) (pv 1) (nomark _)) (pss_one ps_never) pss_nil)
      (pss_one (ps_ret (pv 2)))))), ?_⟩
    refine ⟨.str x, rfl, .str x, .ty "str", .type "str", .type "str", true, rfl, .ty _, .base (.str x), kit_ty (by decide +kernel), true, rfl, iteF ?_⟩
    refine nx_go ?_
    dsimp only
    refine ⟨.str x, rfl, x, t, 4, rfl, by decide, by decide, r, fun z H1 s1 hz => ?_⟩
    refine asg_go2 ?_
    dsimp only
    obtain ⟨b, dx, p, q', rs, eb, hb, _⟩ := hz.at
    cases eb
    refine ⟨.ref z, rfl, z, dx, _, rfl, hb, z, dx, _, .str t.text, rfl, hb, rfl, .str x, rfl, rfl, false, ?_, iteF ?_⟩
    · rw [e]
      exact congrArg V.bl (by simp)
    · refine nx_go ?_
      dsimp only
      exact ⟨.ref z, rfl, q z H1 s1 hz⟩
end
theorem abc_wd : ∀ x ∈ (["a", "b", "c"] : List Str), Wd x := by
  have h : (["a", "b", "c"] : List Str).all (fun x => isW (.str x) && x.cps.toList.all fun c => decide (c < 128)) = true := by decide +kernel
  exact fun x hx => by
    have := List.all_eq_true.mp h x hx
    rw [Bool.and_eq_true] at this
    exact ⟨this.1, fun c hc => of_decide_eq_true (List.all_eq_true.mp this.2 c hc)⟩
theorem fit0 {a : Str} (w : Wd a) : (Ty.mk [] a).Fits ∧ (Ty.mk [] a).places.length = 1 ∧ (Ty.mk [] a).order = 0 := by
  have e : (Ty.mk [] a).places = [a] := by rw [Ty.places, Ty.placesL_nil]; rfl
  have o : (Ty.mk [] a).order = 0 := by rw [Ty.order, Ty.orderL]
  exact ⟨⟨fun b hb => by rw [e] at hb; rw [List.mem_singleton.mp hb]; exact w, by rw [e]; exact (by decide : 1 ≤ 15), by rw [o]; exact Nat.zero_le _⟩, by rw [e]; rfl, o⟩
theorem fit1 {t : Ty} {a : Str} {n k : Nat} (h : t.Fits ∧ t.places.length = n ∧ t.order = k) (w : Wd a) (n1 : n + 1 ≤ 15) (k1 : k + 1 ≤ 4) : (Ty.mk [t] a).Fits ∧ (Ty.mk [t] a).places.length = n + 1 ∧ (Ty.mk [t] a).order = k + 1 := by
  obtain ⟨f, hn, hk⟩ := h
  have e : (Ty.mk [t] a).places = t.places ++ [a] := by rw [Ty.places, Ty.placesL_cons, Ty.placesL_nil, List.append_nil]
  have o : (Ty.mk [t] a).order = t.order + 1 := by rw [Ty.order, Ty.orderL, Ty.orderL]; exact Nat.max_eq_left (Nat.zero_le _)
  have l : (Ty.mk [t] a).places.length = n + 1 := by rw [e, List.length_append, hn]; rfl
  exact ⟨⟨fun b hb => by
    rw [e] at hb
    rcases List.mem_append.mp hb with h | h
    · exact f.words b h
    · rw [List.mem_singleton.mp h]
      exact w, by rw [l]; exact n1, by rw [o, hk]; exact k1⟩, l, by rw [o, hk]⟩
abbrev tA : Ty := .mk [] "a"
abbrev tB_ : Ty := .mk [] "b"
abbrev tC_ : Ty := .mk [] "c"
abbrev tAB : Ty := .mk [tA] "b"
abbrev tABC : Ty := .mk [tAB] "c"
abbrev tABCA : Ty := .mk [tABC] "a"
theorem fitA : tA.Fits ∧ tA.places.length = 1 ∧ tA.order = 0 := fit0 (abc_wd _ (by simp))
theorem fitB : tB_.Fits ∧ tB_.places.length = 1 ∧ tB_.order = 0 := fit0 (abc_wd _ (by simp))
theorem fitC : tC_.Fits ∧ tC_.places.length = 1 ∧ tC_.order = 0 := fit0 (abc_wd _ (by simp))
theorem fitAB : tAB.Fits ∧ tAB.places.length = 2 ∧ tAB.order = 1 := fit1 fitA (abc_wd _ (by simp)) (by decide) (by decide)
theorem fitABC : tABC.Fits ∧ tABC.places.length = 3 ∧ tABC.order = 2 := fit1 fitAB (abc_wd _ (by simp)) (by decide) (by decide)
theorem fitABCA : tABCA.Fits ∧ tABCA.places.length = 4 ∧ tABCA.order = 3 := fit1 fitABC (abc_wd _ (by simp)) (by decide) (by decide)
theorem rAB (d : Nat) : Reads d "a -> b" tAB :=
  .mk (qs := ["a"]) (a := "b") ⟨by decide +kernel, by decide +kernel, by decide +kernel⟩ (by decide +kernel) (.cons (.plain (.inr (.inl (by decide +kernel))) fitA.1) .nil) fitAB.1
theorem rABC : Reads 3 "(a -> b) -> c" tABC :=
  .mk (qs := ["(a -> b)"]) (a := "c") ⟨by decide +kernel, by decide +kernel, by decide +kernel⟩ (by decide +kernel) (.cons (.open_ (d := 2) (by decide +kernel) (by decide +kernel) (by decide +kernel) ((show inner "(a -> b)" = ("a -> b" : Str) by decide +kernel) ▸ rAB 2)) .nil) fitABC.1
theorem rABCA : Reads 4 "((a -> b) -> c) -> a" tABCA :=
  .mk (qs := ["((a -> b) -> c)"]) (a := "a") ⟨by decide +kernel, by decide +kernel, by decide +kernel⟩ (by decide +kernel) (.cons (.open_ (d := 3) (by decide +kernel) (by decide +kernel) (by decide +kernel) ((show inner "((a -> b) -> c)" = ("(a -> b) -> c" : Str) by decide +kernel) ▸ rABC)) .nil) fitABCA.1
theorem xAB : tAB.text = ("a -> b" : Str) := by decide +kernel
theorem xABCA : tABCA.text = ("((a -> b) -> c) -> a" : Str) := by decide +kernel


end My
namespace My
open PySem PySem.Spec PyProof.Rows L2 TL
/-! ### each type that fits is read from its text -/
theorem lp_eq : ("(" : Str) = ⟨#[40]⟩ := by decide +kernel
theorem rp_eq : (")" : Str) = ⟨#[41]⟩ := by decide +kernel
def dep (p : Str) : Int := PyProof.Rows.cnt 40 p.cps.toList - PyProof.Rows.cnt 41 p.cps.toList
theorem dep_is (p : Str) : (Txt.count p "(" : Int) - (Txt.count p ")" : Int) = dep p := by
  rw [lp_eq, rp_eq, PyProof.Rows.count_cnt, PyProof.Rows.count_cnt]
  rfl
theorem list_app (p q : Str) : (p ++ q).cps.toList = p.cps.toList ++ q.cps.toList := tl_append p q
theorem dep_app (p q : Str) : dep (p ++ q) = dep p + dep q := by
  unfold dep
  rw [list_app, PyProof.Rows.cnt_append, PyProof.Rows.cnt_append]
  omega
theorem dep_lp : dep "(" = 1 := by decide +kernel
theorem dep_rp : dep ")" = -1 := by decide +kernel
theorem word_not {a : Str} (h : isW (.str a) = true) {c : Nat} (hc : ¬ (97 ≤ c ∧ c ≤ 122)) : c ∉ a.cps.toList := fun hm => by
  rw [isW_str, Bool.and_eq_true] at h
  have := List.all_eq_true.mp h.2 c hm
  unfold isLow at this
  rw [Bool.and_eq_true, decide_eq_true_eq, decide_eq_true_eq] at this
  exact hc this
theorem dep_word {a : Str} (h : isW (.str a) = true) : dep a = 0 := by
  unfold dep
  rw [PyProof.Rows.cnt_none 40 _ (word_not h (by omega)), PyProof.Rows.cnt_none 41 _ (word_not h (by omega))]
  rfl
def sumD : List Str → Int
  | [] => 0
  | p :: r => dep p + sumD r
theorem sumD_app : ∀ ps qs : List Str, sumD (ps ++ qs) = sumD ps + sumD qs
  | [], qs => by show sumD qs = 0 + sumD qs; omega
  | p :: r, qs => by
    show dep p + sumD (r ++ qs) = dep p + sumD r + sumD qs
    rw [sumD_app r qs]
    omega
theorem run_pos : ∀ (qs P B : List Str) (d : Int), qs ≠ [] → (∀ k, 0 < k → k < qs.length → d + sumD (qs.take k) ≠ 0) → d + sumD qs = 0 → qs.foldl pStep (P, B, d) = (P ++ [Txt.join ARR (B ++ qs)], [], 0)
  | [], _, _, _, h, _, _ => absurd rfl h
  | [p], P, B, d, _, _, t => by
    have e : d + dep p = 0 := by
      have : d + (dep p + 0) = 0 := t
      omega
    show pStep (P, B, d) p = _
    unfold pStep
    dsimp only
    rw [dep_is, if_pos e, e]
  | p :: q :: r, P, B, d, _, h, t => by
    have ne : d + dep p ≠ 0 := by
      have := h 1 (by decide) (by simp)
      intro z
      refine this ?_
      show d + (dep p + 0) = 0
      omega
    have st : pStep (P, B, d) p = (P, B ++ [p], d + dep p) := by
      unfold pStep
      dsimp only
      rw [dep_is, if_neg ne]
    have ih := run_pos (q :: r) P (B ++ [p]) (d + dep p) (List.cons_ne_nil _ _) (fun k k0 kl => by
      have := h (k + 1) (Nat.succ_pos _) (Nat.succ_lt_succ kl)
      intro z
      refine this ?_
      show d + (dep p + sumD ((q :: r).take k)) = 0
      omega) (by
      have : d + (dep p + sumD (q :: r)) = 0 := t
      omega)
    show (q :: r).foldl pStep (pStep (P, B, d) p) = _
    rw [st, ih, List.append_assoc]
    rfl
def Bal (ps : List Str) : Prop := (∀ k, 0 ≤ sumD (ps.take k)) ∧ sumD ps = 0
def PosL (ps : List Str) : Prop := ps ≠ [] ∧ (∀ k, 0 < k → k < ps.length → 0 < sumD (ps.take k)) ∧ sumD ps = 0
theorem PosL.bal {ps : List Str} (h : PosL ps) : Bal ps := by
  refine ⟨fun k => ?_, h.2.2⟩
  by_cases k0 : k = 0
  · rw [k0, List.take_zero]
    exact Int.le_refl 0
  · by_cases kl : k < ps.length
    · exact Int.le_of_lt (h.2.1 k (by omega) kl)
    · rw [List.take_of_length_le (by omega), h.2.2]
      exact Int.le_refl 0
theorem Bal.app {ps qs : List Str} (h : Bal ps) (g : Bal qs) : Bal (ps ++ qs) := by
  refine ⟨fun k => ?_, by rw [sumD_app, h.2, g.2]; rfl⟩
  rw [List.take_append, sumD_app]
  have := h.1 k
  have := g.1 (k - ps.length)
  omega
theorem Bal.nil : Bal [] := ⟨fun k => by rw [List.take_nil]; exact Int.le_refl 0, rfl⟩
theorem pos_one {a : Str} (h : dep a = 0) : PosL [a] := ⟨List.cons_ne_nil _ _, fun k k0 kl => absurd kl (by simp; omega), by show dep a + 0 = 0; omega⟩
def closeL : List Str → List Str
  | [] => []
  | [p] => [p ++ (")" : Str)]
  | p :: q :: r => p :: closeL (q :: r)
def wrapL : List Str → List Str
  | [] => []
  | p :: r => closeL ((("(" : Str) ++ p) :: r)
theorem close_ne {p : Str} {r : List Str} : closeL (p :: r) ≠ [] := by
  cases r with
  | nil => exact List.cons_ne_nil _ _
  | cons q r => exact List.cons_ne_nil _ _
theorem close_len : ∀ ps : List Str, (closeL ps).length = ps.length
  | [] => rfl
  | [p] => rfl
  | p :: q :: r => congrArg (· + 1) (close_len (q :: r))
theorem close_take : ∀ (ps : List Str) (k : Nat), k < ps.length → sumD ((closeL ps).take k) = sumD (ps.take k)
  | [], _, h => by cases h
  | [p], k, h => by
    have : k = 0 := by
      have : k < 1 := h
      omega
    rw [this, List.take_zero, List.take_zero]
  | p :: q :: r, 0, _ => rfl
  | p :: q :: r, k + 1, h => by
    show dep p + sumD ((closeL (q :: r)).take k) = dep p + sumD ((q :: r).take k)
    rw [close_take (q :: r) k (Nat.lt_of_succ_lt_succ h)]
theorem close_sum : ∀ (p : Str) (r : List Str), sumD (closeL (p :: r)) = sumD (p :: r) - 1
  | p, [] => by
    show dep (p ++ (")" : Str)) + 0 = dep p + 0 - 1
    rw [dep_app, dep_rp]
    omega
  | p, q :: r => by
    show dep p + sumD (closeL (q :: r)) = dep p + sumD (q :: r) - 1
    rw [close_sum q r]
    omega
theorem Bal.wrap {ps : List Str} (ne : ps ≠ []) (h : Bal ps) : PosL (wrapL ps) := by
  cases ps with
  | nil => exact absurd rfl ne
  | cons p r =>
    refine ⟨close_ne, fun k k0 kl => ?_, ?_⟩
    · have kl' : k < (p :: r).length := by
        have : k < (closeL ((("(" : Str) ++ p) :: r)).length := kl
        rw [close_len] at this
        exact this
      show 0 < sumD ((closeL ((("(" : Str) ++ p) :: r)).take k)
      rw [close_take ((("(" : Str) ++ p) :: r) k kl']
      obtain ⟨j, rfl⟩ : ∃ j, k = j + 1 := ⟨k - 1, by omega⟩
      have b := h.1 (j + 1)
      have b : 0 ≤ dep p + sumD (r.take j) := b
      show 0 < dep (("(" : Str) ++ p) + sumD (r.take j)
      rw [dep_app, dep_lp]
      omega
    · show sumD (closeL ((("(" : Str) ++ p) :: r)) = 0
      rw [close_sum]
      have b : dep p + sumD r = 0 := h.2
      show dep (("(" : Str) ++ p) + sumD r - 1 = 0
      rw [dep_app, dep_lp]
      omega
theorem glue_close : ∀ (p : Str) (r : List Str), glueL (closeL (p :: r)) = glueL (p :: r) ++ [41]
  | p, [] => by
    show (p ++ (")" : Str)).cps.toList = p.cps.toList ++ [41]
    rw [list_app, rp_eq]
  | p, q :: r => by
    have ih := glue_close q r
    have : ∃ y s, closeL (q :: r) = y :: s := by
      cases h : closeL (q :: r) with
      | nil => exact absurd h close_ne
      | cons y s => exact ⟨y, s, rfl⟩
    obtain ⟨y, s, e⟩ := this
    show glueL (p :: closeL (q :: r)) = (p.cps.toList ++ ([32, 45, 62, 32] ++ glueL (q :: r))) ++ [41]
    rw [e] at ih ⊢
    show p.cps.toList ++ ([32, 45, 62, 32] ++ glueL (y :: s)) = _
    rw [ih]
    simp only [List.append_assoc]
theorem glue_open (p : Str) (r : List Str) : glueL ((("(" : Str) ++ p) :: r) = 40 :: glueL (p :: r) := by
  cases r with
  | nil =>
    show (("(" : Str) ++ p).cps.toList = 40 :: p.cps.toList
    rw [list_app, lp_eq]
    rfl
  | cons q r =>
    show (("(" : Str) ++ p).cps.toList ++ _ = 40 :: (p.cps.toList ++ _)
    rw [list_app, lp_eq]
    rfl
theorem join_wrap {ps : List Str} (ne : ps ≠ []) : Txt.join ARW (wrapL ps) = ("(" : Str) ++ Txt.join ARW ps ++ (")" : Str) := by
  cases ps with
  | nil => exact absurd rfl ne
  | cons p r =>
    refine str_list ?_
    rw [join_glueL, list_app, list_app, join_glueL, lp_eq, rp_eq]
    show glueL (closeL ((("(" : Str) ++ p) :: r)) = _
    rw [glue_close, glue_open]
    rfl
theorem glue_app : ∀ ps qs : List Str, ps ≠ [] → qs ≠ [] → glueL (ps ++ qs) = glueL ps ++ ([32, 45, 62, 32] ++ glueL qs)
  | [], _, h, _ => absurd rfl h
  | [p], qs, _, h => by
    cases qs with
    | nil => exact absurd rfl h
    | cons q r => rfl
  | p :: q :: r, qs, _, h => by
    have ih := glue_app (q :: r) qs (List.cons_ne_nil _ _) h
    show p.cps.toList ++ ([32, 45, 62, 32] ++ glueL ((q :: r) ++ qs)) = (p.cps.toList ++ ([32, 45, 62, 32] ++ glueL (q :: r))) ++ _
    rw [ih]
    simp only [List.append_assoc]
theorem close_mem : ∀ (ps : List Str) {x : Str}, x ∈ closeL ps → x ∈ ps ∨ ∃ p ∈ ps, x = p ++ (")" : Str)
  | [], _, h => by cases h
  | [p], x, h => .inr ⟨p, List.mem_singleton.mpr rfl, List.mem_singleton.mp h⟩
  | p :: q :: r, x, h => by
    rcases List.mem_cons.mp h with e | h
    · exact .inl (e ▸ List.mem_cons_self ..)
    · rcases close_mem (q :: r) h with k | ⟨z, hz, e⟩
      · exact .inl (List.mem_cons_of_mem _ k)
      · exact .inr ⟨z, List.mem_cons_of_mem _ hz, e⟩
def NoGt (ps : List Str) : Prop := ∀ p ∈ ps, 62 ∉ p.cps.toList
theorem NoGt.wrap {ps : List Str} (h : NoGt ps) : NoGt (wrapL ps) := by
  cases ps with
  | nil => exact h
  | cons p r =>
    have h1 : NoGt ((("(" : Str) ++ p) :: r) := fun x hx => by
      rcases List.mem_cons.mp hx with rfl | hx
      · rw [list_app, lp_eq]
        intro m
        rcases List.mem_append.mp m with m | m
        · exact absurd (List.mem_singleton.mp m) (by decide)
        · exact h p (List.mem_cons_self ..) m
      · exact h x (List.mem_cons_of_mem _ hx)
    intro x hx
    rcases close_mem _ hx with k | ⟨z, hz, rfl⟩
    · exact h1 x k
    · rw [list_app, rp_eq]
      intro m
      rcases List.mem_append.mp m with m | m
      · exact h1 z hz m
      · exact absurd (List.mem_singleton.mp m) (by decide)
namespace Ty
mutual
def flat : Ty → List Str
  | .mk i a => flatL i ++ [a]
def flatL : List Ty → List Str
  | [] => []
  | t :: r => (if t.ins.isEmpty then flat t else wrapL (flat t)) ++ flatL r
end
theorem flat_ne (t : Ty) : t.flat ≠ [] := by
  cases t with
  | mk i a =>
    rw [flat]
    exact List.append_ne_nil_of_right_ne_nil _ (List.cons_ne_nil _ _)
def piece (t : Ty) : List Str := if t.ins.isEmpty then flat t else wrapL (flat t)
theorem flatL_cons (t : Ty) (r : List Ty) : flatL (t :: r) = piece t ++ flatL r := by rw [flatL]; rfl
theorem flat_at (t : Ty) : t.flat = flatL t.ins ++ [t.atom] := by
  cases t with
  | mk i a => rw [flat]; rfl
theorem NoGt_app {ps qs : List Str} (h : NoGt ps) (g : NoGt qs) : NoGt (ps ++ qs) := fun x hx => by
  rcases List.mem_append.mp hx with k | k
  · exact h x k
  · exact g x k
mutual
theorem flat_ok : ∀ t : Ty, t.words → Bal t.flat ∧ NoGt t.flat
  | .mk i a, w => by
    have wa := (w a (by rw [places]; exact List.mem_append_right _ (List.mem_singleton.mpr rfl))).1
    obtain ⟨h1, h2⟩ := flatL_ok i fun b hb => w b (by rw [places]; exact List.mem_append_left _ hb)
    rw [flat]
    exact ⟨h1.app (pos_one (dep_word wa)).bal, NoGt_app h2 fun x hx => by
      rw [List.mem_singleton.mp hx]
      exact word_not wa (by omega)⟩
theorem flatL_ok : ∀ l : List Ty, (∀ a ∈ placesL l, isW (.str a) = true ∧ ∀ c ∈ a.cps.toList, c < 128) → Bal (flatL l) ∧ NoGt (flatL l)
  | [], _ => by
    rw [flatL]
    exact ⟨Bal.nil, fun _ h => by cases h⟩
  | t :: r, w => by
    rw [placesL_cons] at w
    obtain ⟨h1, h2⟩ := flat_ok t fun b hb => w b (List.mem_append_left _ hb)
    obtain ⟨h3, h4⟩ := flatL_ok r fun b hb => w b (List.mem_append_right _ hb)
    rw [flatL_cons, piece]
    by_cases c : t.ins.isEmpty = true
    · rw [if_pos c]
      exact ⟨h1.app h3, NoGt_app h2 h4⟩
    · rw [if_neg c]
      exact ⟨(Bal.wrap (flat_ne t) h1).bal.app h3, NoGt_app h2.wrap h4⟩
end
theorem piece_pos (t : Ty) (w : t.words) : PosL t.piece := by
  rw [piece]
  by_cases c : t.ins.isEmpty = true
  · rw [if_pos c, flat_at, List.isEmpty_iff.mp c, flatL]
    exact pos_one (dep_word (w t.atom (by rw [places_at]; exact List.mem_append_right _ (List.mem_singleton.mpr rfl))).1)
  · rw [if_neg c]
    exact Bal.wrap (flat_ne t) (flat_ok t w).1
theorem piece_ne (t : Ty) : t.piece ≠ [] := by
  rw [piece]
  by_cases c : t.ins.isEmpty = true
  · rw [if_pos c]
    exact flat_ne t
  · rw [if_neg c]
    have := flat_ne t
    cases h : t.flat with
    | nil => exact absurd h this
    | cons p r => exact close_ne
mutual
theorem text_flat : ∀ t : Ty, t.text = Txt.join ARW t.flat
  | .mk i a => by
    rw [text, flat]
    refine str_list ?_
    rw [join_glueL, join_glueL]
    exact glue_flatL i a
theorem glue_flatL : ∀ (l : List Ty) (a : Str), glueL (insideL l ++ [a]) = glueL (flatL l ++ [a])
  | [], a => by rw [insideL, flatL]
  | t :: r, a => by
    have e : (inside t).cps.toList = glueL (piece t) := by
      rw [inside, piece]
      by_cases c : t.ins.isEmpty = true
      · rw [if_pos c, if_pos c, text_flat t, join_glueL]
      · rw [if_neg c, if_neg c, text_flat t, ← join_wrap (flat_ne t), join_glueL]
    have ei : insideL (t :: r) = inside t :: insideL r := by rw [insideL, inside]
    rw [ei, flatL_cons, List.append_assoc, glue_app _ _ (piece_ne t) (List.append_ne_nil_of_right_ne_nil _ (List.cons_ne_nil _ _)), ← glue_flatL r a, ← e]
    show glueL ([inside t] ++ (insideL r ++ [a])) = _
    rw [glue_app _ _ (List.cons_ne_nil _ _) (List.append_ne_nil_of_right_ne_nil _ (List.cons_ne_nil _ _))]
    rfl
end
theorem inside_piece (t : Ty) : Txt.join ARW t.piece = t.inside := by
  rw [inside, piece]
  by_cases c : t.ins.isEmpty = true
  · rw [if_pos c, if_pos c, text_flat t]
  · rw [if_neg c, if_neg c, text_flat t, join_wrap (flat_ne t)]
theorem fold_flatL : ∀ (l : List Ty) (P : List Str), (∀ a ∈ placesL l, isW (.str a) = true ∧ ∀ c ∈ a.cps.toList, c < 128) → (flatL l).foldl pStep (P, [], 0) = (P ++ insideL l, [], 0)
  | [], P, _ => by rw [flatL, insideL, List.append_nil]; rfl
  | t :: r, P, w => by
    rw [placesL_cons] at w
    have hp := piece_pos t fun b hb => w b (List.mem_append_left _ hb)
    have ei : insideL (t :: r) = inside t :: insideL r := by rw [insideL, inside]
    have st := run_pos t.piece P [] 0 hp.1 (fun k k0 kl => by have := hp.2.1 k k0 kl; omega) (by rw [hp.2.2]; rfl)
    rw [flatL_cons, List.foldl_append, st, fold_flatL r _ fun b hb => w b (List.mem_append_right _ hb), ei, List.nil_append]
    show ((P ++ [Txt.join ARW t.piece]) ++ insideL r, [], 0) = _
    rw [inside_piece, List.append_assoc]
    rfl
theorem pieces_text (t : Ty) (w : t.words) : piecesOf t.text = insideL t.ins ++ [t.atom] := by
  have sp : Txt.split t.text ARR = t.flat := by
    rw [text_flat t]
    exact split_join (flat_ne t) (flat_ok t w).2
  have wa := (w t.atom (by rw [places_at]; exact List.mem_append_right _ (List.mem_singleton.mpr rfl))).1
  have run : pRun t.flat = (insideL t.ins ++ [t.atom], [], 0) := by
    unfold pRun
    rw [flat_at, List.foldl_append, fold_flatL t.ins [] (fun b hb => w b (by rw [places_at]; exact List.mem_append_left _ hb)), List.nil_append,
      run_pos [t.atom] (insideL t.ins) [] 0 (List.cons_ne_nil _ _) (fun k k0 kl => absurd kl (by simp; omega)) (by show 0 + (dep t.atom + 0) = 0; rw [dep_word wa]; rfl)]
    refine congrArg (fun z => (insideL t.ins ++ [z], ([] : List Str), (0 : Int))) ?_
    refine str_list ?_
    rw [List.nil_append]
    exact join_glueL [t.atom]
  unfold piecesOf
  rw [sp, run]
  simp
end Ty
theorem sum_le (ps : List Str) : (ps.map (·.length)).sum ≤ (Txt.join ARW ps).length := by
  rw [join_len]
  exact Nat.le_add_right _ _
namespace Ty
theorem plain_text (a : Str) : (Ty.mk [] a).text = a := by
  rw [text_flat, flat, flatL, List.nil_append]
  refine str_list ?_
  rw [join_glueL]
  rfl
theorem len_sum : ∀ ps : List Str, ps.length ≤ (Txt.join ARW ps).length + 1
  | [] => Nat.zero_le _
  | p :: r => by
    rw [join_len, arw_len]
    show r.length + 1 ≤ _ + (r.length + 1 - 1) * 4 + 1
    omega
theorem small_text {t : Ty} (f : t.Fits) : Small t.text := by
  have l := Ty.text_small f.words f.few
  have sp : Txt.split t.text ARR = t.flat := by
    rw [text_flat t]
    exact split_join (flat_ne t) (flat_ok t f.words).2
  have e := text_flat t
  refine ⟨by omega, ?_, ?_⟩
  · rw [sp]
    have := len_sum t.flat
    rw [← e] at this
    omega
  · rw [sp]
    have := sum_le t.flat
    rw [← e] at this
    omega
theorem inner_text (x : Str) : inner (("(" : Str) ++ x ++ (")" : Str)) = x := by
  unfold inner cutS
  refine str_list ?_
  have hl : (("(" : Str) ++ x ++ (")" : Str)).cps.toList = 40 :: (x.cps.toList ++ [41]) := by
    rw [list_app, list_app, lp_eq, rp_eq]
    rfl
  have n : (("(" : Str) ++ x ++ (")" : Str)).length = x.cps.toList.length + 2 := by
    show (("(" : Str) ++ x ++ (")" : Str)).cps.size = _
    rw [← Array.length_toList, hl, List.length_cons, List.length_append]
    rfl
  have s1 : HT.sIx (x.cps.toList.length + 2) 0 (some 1) = 1 := by
    unfold HT.sIx
    dsimp only
    rw [if_neg (by decide)]
    show min 1 (x.cps.toList.length + 2) = 1
    omega
  have s2 : HT.sIx (x.cps.toList.length + 2) (x.cps.toList.length + 2) (some (-1)) = x.cps.toList.length + 1 := by
    unfold HT.sIx
    dsimp only
    rw [if_pos (by decide)]
    omega
  rw [n, s1, s2, hl]
  show ((40 :: (x.cps.toList ++ [41])).drop 1).take (x.cps.toList.length + 1 - 1) = x.cps.toList
  rw [List.drop_one, List.tail_cons, Nat.add_sub_cancel, List.take_left]
theorem readsL_of {d : Nat} : ∀ l : List Ty, (∀ u ∈ l, ReadsP d u.inside u) → ReadsL d (insideL l) l
  | [], _ => by
    rw [insideL]
    exact .nil
  | u :: r, h => by
    have ei : insideL (u :: r) = inside u :: insideL r := by rw [insideL, inside]
    rw [ei]
    exact .cons (h u (List.mem_cons_self ..)) (readsL_of r fun z hz => h z (List.mem_cons_of_mem _ hz))
theorem word_plain {a : Str} (h : isW (.str a) = true) : Txt.startswith a "(" = false := by
  cases e : Txt.startswith a "(" with
  | false => rfl
  | true =>
    unfold Txt.startswith at e
    rw [Bool.and_eq_true] at e
    have m := e.2
    rw [StrLaws.subAt_eq, lp_eq] at m
    have m := eq_of_beq m
    rw [List.drop_zero] at m
    have m : a.cps.toList.take 1 = [40] := m
    have : 40 ∈ a.cps.toList := List.mem_of_mem_take (by rw [m]; exact List.mem_singleton.mpr rfl)
    exact absurd this (word_not h (by omega))
/-- each type that fits is read from its text -/
theorem reads_text : ∀ (n : Nat) (t : Ty), t.places.length ≤ n → t.Fits → ∀ d, t.order ≤ d → Reads d t.text t
  | 0, t, h, _, _, _ => absurd (places_pos t) (by omega)
  | n + 1, t, h, f, d, lo => by
    have eta : t = .mk t.ins t.atom := by cases t; rfl
    have ft' : (Ty.mk t.ins t.atom).Fits := eta ▸ f
    have r : ReadsL d (insideL t.ins) t.ins := readsL_of t.ins fun u hu => by
      have fu := ft'.ins hu
      have lu : u.order + 1 ≤ d := by
        have h1 := low_ins hu
        have h2 : t.order = orderL t.ins := by cases t; rw [order]; rfl
        omega
      have l1 : u.places.length ≤ (placesL t.ins).length := few_ins hu
      have l2 : t.places.length = (placesL t.ins).length + 1 := by rw [places_at, List.length_append]; rfl
      by_cases c : u.ins.isEmpty = true
      · have eu : u = .mk [] u.atom := by
          rw [← List.isEmpty_iff.mp c]
          cases u
          rfl
        have et : u.inside = u.atom := by
          rw [inside, if_pos c, eu, plain_text]
          rfl
        have wa := (fu.words u.atom (by rw [places_at]; exact List.mem_append_right _ (List.mem_singleton.mpr rfl))).1
        rw [et]
        have := ReadsP.plain (d := d) (p := u.atom) (.inr (.inl (word_plain wa))) (eu ▸ fu)
        rw [← eu] at this
        exact this
      · obtain ⟨e, rfl⟩ : ∃ e, d = e + 1 := ⟨d - 1, by omega⟩
        have et : u.inside = ("(" : Str) ++ u.text ++ (")" : Str) := by rw [inside, if_neg c]
        rw [et]
        refine .open_ ?_ ?_ ?_ ?_
        · have l := text_small fu.words fu.few
          rw [app_len, app_len]
          have h1 : (("(" : Str)).length = 1 := by decide +kernel
          have h2 : ((")" : Str)).length = 1 := by decide +kernel
          omega
        · rw [PySem.W.KAf.starts_left (by rw [app_len]; have h1 : (("(" : Str)).length = 1 := by decide +kernel
                                          omega)]
          exact PySem.W.KT.starts_app _ _
        · exact PySem.W.KT.ends_app _ _
        · rw [inner_text]
          exact reads_text n u (by omega) fu e (by omega)
    have m := Reads.mk (small_text f) (pieces_text t f.words) r ft'
    rw [← eta] at m
    exact m
end Ty

/-! ### a text tells its kind -/
namespace Ty
theorem starts_open (x : Str) : Txt.startswith (("(" : Str) ++ x ++ (")" : Str)) "(" = true := by
  rw [PySem.W.KAf.starts_left (by rw [app_len]; have h1 : (("(" : Str)).length = 1 := by decide +kernel
                                  omega)]
  exact PySem.W.KT.starts_app _ _
theorem inside_cases (t : Ty) (w : t.words) : (t.ins = [] ∧ t.inside = t.atom ∧ Txt.startswith t.inside "(" = false) ∨ (t.ins ≠ [] ∧ t.inside = ("(" : Str) ++ t.text ++ (")" : Str)) := by
  by_cases c : t.ins.isEmpty = true
  · have e := List.isEmpty_iff.mp c
    have et : t = .mk [] t.atom := by
      rw [← e]
      cases t
      rfl
    have ei : t.inside = t.atom := by
      rw [inside, if_pos c, et, plain_text]
      rfl
    refine .inl ⟨e, ei, ?_⟩
    rw [ei]
    exact word_plain (w t.atom (by rw [places_at]; exact List.mem_append_right _ (List.mem_singleton.mpr rfl))).1
  · exact .inr ⟨fun z => c (by rw [z]; rfl), by rw [inside, if_neg c]⟩
theorem etaQ (t : Ty) (e : t.ins = []) : t = .mk [] t.atom := by
  rw [← e]
  cases t
  rfl
theorem text_inj : ∀ (n : Nat) (t u : Ty), t.places.length ≤ n → t.words → u.words → t.text = u.text → t = u := by
  intro n
  induction n with
  | zero =>
    intro t u h
    rw [places_at, List.length_append] at h
    simp at h
  | succ n ih =>
    intro t u h wt wu e
    have p := pieces_text t wt
    rw [e, pieces_text u wu] at p
    obtain ⟨p1, p2⟩ := List.append_inj' p rfl
    have ea : t.atom = u.atom := by simpa using p2.symm
    have step : ∀ (l m : List Ty), (placesL l).length ≤ n → (∀ x ∈ l, x.words) → (∀ x ∈ m, x.words) → insideL m = insideL l → l = m := by
      intro l
      induction l with
      | nil =>
        intro m _ _ _ q
        cases m with
        | nil => rfl
        | cons y s => rw [insideL_map, insideL_map] at q; cases q
      | cons x r ih2 =>
        intro m hl wl wm q
        cases m with
        | nil => rw [insideL_map, insideL_map] at q; cases q
        | cons y s =>
          rw [insideL_map, insideL_map, List.map_cons, List.map_cons] at q
          obtain ⟨q1, q2⟩ := List.cons.inj q
          rw [placesL_cons, List.length_append] at hl
          have wx := wl x (List.mem_cons_self ..)
          have wy := wm y (List.mem_cons_self ..)
          have xy : x = y := by
            rcases inside_cases x wx with ⟨i1, j1, k1⟩ | ⟨i1, j1⟩
            · rcases inside_cases y wy with ⟨i2, j2, k2⟩ | ⟨i2, j2⟩
              · rw [j1, j2] at q1
                exact (etaQ x i1).trans ((congrArg (Ty.mk []) q1.symm).trans (etaQ y i2).symm)
              · rw [← q1, j2] at k1
                rw [starts_open] at k1
                cases k1
            · rcases inside_cases y wy with ⟨i2, j2, k2⟩ | ⟨i2, j2⟩
              · rw [q1, j1, starts_open] at k2
                cases k2
              · rw [j1, j2] at q1
                have := congrArg inner q1
                rw [inner_text, inner_text] at this
                exact ih x y (by omega) wx wy this.symm
          rw [xy, ih2 s (by omega) (fun z hz => wl z (List.mem_cons_of_mem _ hz)) (fun z hz => wm z (List.mem_cons_of_mem _ hz)) (by rw [insideL_map, insideL_map]; exact q2)]
    have wi : ∀ (t : Ty), t.words → ∀ x ∈ t.ins, x.words := fun t w x hx a ha => w a (by
      rw [places_at]
      exact List.mem_append_left _ ((mem_placesL' t.ins).mpr ⟨x, hx, ha⟩))
    have el := step t.ins u.ins (by rw [places_at, List.length_append] at h; simp at h; omega) (wi t wt) (wi u wu) p1
    cases t
    cases u
    have el : _ = _ := el
    have ea : _ = _ := ea
    simp only [ins, atom] at el ea
    rw [el, ea]
end Ty


end My
namespace My
open PySem PySem.Spec PyProof.Rows L2 TL
/-! ### plain kinds compared -/
mutual
theorem kd_eq : ∀ t u : Ty, PyData.eqv (kd t) (kd u) = true → t = u
  | .mk i a, .mk j b, h => by
    rw [kd, kd, PyData.eqv, PyData.eqvAll, PyData.eqvAll, PyData.eqv, PyData.eqv] at h
    simp only [Bool.and_eq_true] at h
    have h1 := kdL_eq i j h.1
    have h2 : a = b := by simpa [PyData.eqvAll] using h.2
    rw [h1, h2]
theorem kdL_eq : ∀ l m : List Ty, PyData.eqvAll (kdL l) (kdL m) = true → l = m
  | [], [], _ => rfl
  | [], u :: s, h => by
    rw [kdL, kdL] at h
    simp [PyData.eqvAll] at h
  | t :: r, [], h => by
    rw [kdL, kdL] at h
    simp [PyData.eqvAll] at h
  | t :: r, u :: s, h => by
    rw [kdL, kdL, PyData.eqvAll, Bool.and_eq_true] at h
    rw [kd_eq t u h.1, kdL_eq r s h.2]
end
theorem kd_shp {t : Ty} (f : t.Fits) : SeqAt.shaped (kd t) = true := by
  obtain ⟨h1, h2⟩ := kd_lay t fun a ha => strOk_ascii (f.words a ha).2
  have o := f.low
  unfold SeqAt.shaped
  rw [h1]
  simp
  omega


end My
namespace My
open PySem PySem.Spec PyProof.Rows L2 TL
/-! ### two libraries joined -/
def Lib.putL (L : Lib) (e : Str × Ty) : Lib := if e.1 ∈ L.names then L.map (fun x => if x.1 = e.1 then e else x) else L ++ [e]
theorem Lib.names_repl (e : Str × Ty) : ∀ L : Lib, Lib.names (L.map fun x => if x.1 = e.1 then e else x) = L.names
  | [] => rfl
  | x :: r => by
    show (if x.1 = e.1 then e else x).1 :: Lib.names _ = x.1 :: Lib.names r
    rw [Lib.names_repl e r]
    by_cases c : x.1 = e.1
    · rw [if_pos c, c]
    · rw [if_neg c]
theorem IsP.repl {C : Addr} {H : Hp} {e : Str × Ty} {v : V} (hv : IsT C H e.2 v) : ∀ {L : Lib} {kvs : List (Key × V)}, IsP C H L kvs → IsP C H (L.map fun x => if x.1 = e.1 then e else x) (kvs.map fun kv => if kv.1 = (Sum.inr e.1 : Key) then (kv.1, v) else kv)
  | [], kvs, h => by
    rw [show kvs = [] from h]
    rfl
  | x :: r, kvs, h => by
    obtain ⟨u, ks, rfl, h1, h2⟩ := h
    have h3 := IsP.repl hv h2
    by_cases c : x.1 = e.1
    · refine ⟨v, ks.map _, ?_, ?_, h3⟩
      · rw [List.map_cons, if_pos (by rw [c])]
        dsimp only
        rw [if_pos c, c]
      · dsimp only
        rw [if_pos c]
        exact hv
    · refine ⟨u, ks.map _, ?_, ?_, h3⟩
      · rw [List.map_cons, if_neg (fun z => c (Sum.inr.inj z))]
        dsimp only
        rw [if_neg c]
      · dsimp only
        rw [if_neg c]
        exact h1
theorem IsP.put {C : Addr} {H : Hp} {e : Str × Ty} {v : V} (hv : IsT C H e.2 v) {L : Lib} {kvs : List (Key × V)} (h : IsP C H L kvs) : IsP C H (L.putL e) (putK kvs (Sum.inr e.1) v) := by
  by_cases c : e.1 ∈ L.names
  · have any : (kvs.any fun kv => decide (kv.1 = (Sum.inr e.1 : Key))) = true := by
      have m : (Sum.inr e.1 : Key) ∈ kvs.map (·.1) := by
        rw [h.keys]
        exact List.mem_map_of_mem c
      obtain ⟨kv, h1, h2⟩ := List.mem_map.mp m
      exact List.any_eq_true.mpr ⟨kv, h1, decide_eq_true h2⟩
    rw [Lib.putL, if_pos c, putK, if_pos any]
    exact h.repl hv
  · rw [Lib.putL, if_neg c, putK_new _ (h.none_of c)]
    exact h.app hv
theorem IsP.merge {C : Addr} {H : Hp} : ∀ {M L : Lib} {ls kvs : List (Key × V)}, IsP C H M ls → IsP C H L kvs → IsP C H (M.foldl Lib.putL L) (mergeK kvs ls)
  | [], L, ls, kvs, h, k => by
    rw [show ls = [] from h]
    exact k
  | e :: r, L, ls, kvs, h, k => by
    obtain ⟨v, ks, rfl, h1, h2⟩ := h
    show IsP C H (r.foldl Lib.putL (L.putL e)) (mergeK (putK kvs (Sum.inr e.1) v) ks)
    exact IsP.merge h2 (k.put h1)
theorem Lib.putL_nodup {L : Lib} (nd : L.names.Nodup) (e : Str × Ty) : (L.putL e).names.Nodup := by
  by_cases c : e.1 ∈ L.names
  · rw [Lib.putL, if_pos c, Lib.names_repl]
    exact nd
  · rw [Lib.putL, if_neg c, Lib.names, List.map_append, List.nodup_append]
    refine ⟨nd, List.nodup_cons.mpr ⟨List.not_mem_nil, List.nodup_nil⟩, fun a ha b hb z => ?_⟩
    have : b = e.1 := by simpa using hb
    rw [z, this] at ha
    exact c ha
theorem Lib.fold_nodup : ∀ {M L : Lib}, L.names.Nodup → (Lib.names (M.foldl Lib.putL L)).Nodup
  | [], _, nd => nd
  | e :: r, _, nd => Lib.fold_nodup (M := r) (Lib.putL_nodup nd e)
theorem Lib.mem_putL {L : Lib} {e x : Str × Ty} : x ∈ L.putL e ↔ x = e ∨ (x ∈ L ∧ x.1 ≠ e.1) := by
  by_cases c : e.1 ∈ L.names
  · rw [Lib.putL, if_pos c, List.mem_map]
    constructor
    · rintro ⟨y, h1, h2⟩
      by_cases d : y.1 = e.1
      · rw [if_pos d] at h2
        exact .inl h2.symm
      · rw [if_neg d] at h2
        exact .inr ⟨h2 ▸ h1, h2 ▸ d⟩
    · rintro (rfl | ⟨h1, h2⟩)
      · obtain ⟨y, h3, h4⟩ := List.mem_map.mp c
        exact ⟨y, h3, if_pos h4⟩
      · exact ⟨x, h1, if_neg h2⟩
  · rw [Lib.putL, if_neg c, List.mem_append, List.mem_singleton]
    constructor
    · rintro (h | h)
      · exact .inr ⟨h, fun z => c (z ▸ List.mem_map_of_mem h)⟩
      · exact .inl h
    · rintro (h | ⟨h, _⟩)
      · exact .inr h
      · exact .inl h
theorem Lib.mem_fold : ∀ {M L : Lib} {x : Str × Ty}, M.names.Nodup → (x ∈ M.foldl Lib.putL L ↔ x ∈ M ∨ (x ∈ L ∧ x.1 ∉ M.names))
  | [], L, x, _ => by
    show x ∈ L ↔ _
    simp [Lib.names]
  | e :: r, L, x, nd => by
    have nd' : e.1 ∉ Lib.names r ∧ (Lib.names r).Nodup := List.nodup_cons.mp nd
    show x ∈ r.foldl Lib.putL (L.putL e) ↔ _
    rw [Lib.mem_fold nd'.2, Lib.mem_putL]
    constructor
    · rintro (h | ⟨rfl | ⟨h1, h2⟩, h3⟩)
      · exact .inl (List.mem_cons_of_mem _ h)
      · exact .inl (List.mem_cons_self ..)
      · refine .inr ⟨h1, fun z => ?_⟩
        rcases List.mem_cons.mp z with z | z
        · exact h2 z
        · exact h3 z
    · rintro (h | ⟨h1, h2⟩)
      · rcases List.mem_cons.mp h with rfl | h
        · exact .inr ⟨.inl rfl, nd'.1⟩
        · exact .inl h
      · exact .inr ⟨.inr ⟨h1, fun z => h2 (z ▸ List.mem_cons_self ..)⟩, fun z => h2 (List.mem_cons_of_mem _ z)⟩
/-- the parts of two libraries -/
def Lib.united (L M : Lib) : Lib := (L.filter fun e => !decide (e.1 ∈ M.names)) ++ M
/-- whether no part has two types -/
def Lib.agree (L M : Lib) : Bool := M.all fun e => !decide (e.1 ∈ L.names) || L.has e
theorem Lib.united_nodup {L M : Lib} (nl : L.names.Nodup) (nm : M.names.Nodup) : (Lib.united L M).names.Nodup := by
  rw [Lib.united, Lib.names, List.map_append, List.nodup_append]
  refine ⟨nl.sublist (List.Sublist.map _ (List.filter_sublist ..)), nm, fun a ha b hb z => ?_⟩
  obtain ⟨e, h1, rfl⟩ := List.mem_map.mp ha
  have h2 := (List.mem_filter.mp h1).2
  rw [← z] at hb
  have : e.1 ∈ Lib.names M := hb
  simp [this] at h2
theorem nodup_of_names {L : Lib} (h : L.names.Nodup) : List.Nodup L := List.Pairwise.imp (fun a b => a (congrArg _ b)) (List.pairwise_map.mp h)
theorem Lib.fold_perm {L M : Lib} (nl : L.names.Nodup) (nm : M.names.Nodup) : List.Perm (M.foldl Lib.putL L) (Lib.united L M) :=
  (List.perm_ext_iff_of_nodup (nodup_of_names (Lib.fold_nodup nl)) (nodup_of_names (Lib.united_nodup nl nm))).mpr fun x => by
    rw [Lib.mem_fold nm, Lib.united, List.mem_append, List.mem_filter]
    simp only [Bool.not_eq_true', decide_eq_false_iff_not]
    exact Or.comm
theorem Lib.united_words {L M : Lib} (fL : L.Fine) (fM : M.Fine) : ∀ e ∈ Lib.united L M, Wd e.1 := fun e h => by
  rcases List.mem_append.mp h with h | h
  · exact fL.words e (List.mem_filter.mp h).1
  · exact fM.words e h
theorem Lib.united_fits {L M : Lib} (fL : L.Fine) (fM : M.Fine) : ∀ e ∈ Lib.united L M, e.2.Fits := fun e h => by
  rcases List.mem_append.mp h with h | h
  · exact fL.fits e (List.mem_filter.mp h).1
  · exact fM.fits e h
theorem Lib.united_len {L M : Lib} (fL : L.Fine) (fM : M.Fine) : (Lib.united L M).length ≤ 16 := by
  rw [Lib.united, List.length_append]
  have := List.length_filter_le (fun e : Str × Ty => !decide (e.1 ∈ M.names)) L
  have := fL.few
  have := fM.few
  omega

/-! ### plain libraries joined -/
theorem IsQ.repl {H : Hp} {e : Str × Ty} {v : V} (hv : IsK H e.2 v) : ∀ {L : Lib} {kvs : List (Key × V)}, IsQ H L kvs → IsQ H (L.map fun x => if x.1 = e.1 then e else x) (kvs.map fun kv => if kv.1 = (Sum.inr e.1 : Key) then (kv.1, v) else kv)
  | [], kvs, h => by
    rw [show kvs = [] from h]
    rfl
  | x :: r, kvs, h => by
    obtain ⟨u, ks, rfl, h1, h2⟩ := h
    have h3 := IsQ.repl hv h2
    by_cases c : x.1 = e.1
    · refine ⟨v, ks.map _, ?_, ?_, h3⟩
      · rw [List.map_cons, if_pos (by rw [c])]
        dsimp only
        rw [if_pos c, c]
      · dsimp only
        rw [if_pos c]
        exact hv
    · refine ⟨u, ks.map _, ?_, ?_, h3⟩
      · rw [List.map_cons, if_neg (fun z => c (Sum.inr.inj z))]
        dsimp only
        rw [if_neg c]
      · dsimp only
        rw [if_neg c]
        exact h1
theorem IsQ.put {H : Hp} {e : Str × Ty} {v : V} (hv : IsK H e.2 v) {L : Lib} {kvs : List (Key × V)} (h : IsQ H L kvs) : IsQ H (L.putL e) (putK kvs (Sum.inr e.1) v) := by
  by_cases c : e.1 ∈ L.names
  · have any : (kvs.any fun kv => decide (kv.1 = (Sum.inr e.1 : Key))) = true := by
      have m : (Sum.inr e.1 : Key) ∈ kvs.map (·.1) := by
        rw [h.keys]
        exact List.mem_map_of_mem c
      obtain ⟨kv, h1, h2⟩ := List.mem_map.mp m
      exact List.any_eq_true.mpr ⟨kv, h1, decide_eq_true h2⟩
    rw [Lib.putL, if_pos c, putK, if_pos any]
    exact h.repl hv
  · rw [Lib.putL, if_neg c, putK_new _ (h.none_of c)]
    exact h.app hv
theorem IsQ.merge {H : Hp} : ∀ {M L : Lib} {ls kvs : List (Key × V)}, IsQ H M ls → IsQ H L kvs → IsQ H (M.foldl Lib.putL L) (mergeK kvs ls)
  | [], L, ls, kvs, h, k => by
    rw [show ls = [] from h]
    exact k
  | e :: r, L, ls, kvs, h, k => by
    obtain ⟨v, ks, rfl, h1, h2⟩ := h
    show IsQ H (r.foldl Lib.putL (L.putL e)) (mergeK (putK kvs (Sum.inr e.1) v) ks)
    exact IsQ.merge h2 (k.put h1)

theorem mergeK_append (kvs a b : List (Key × V)) : mergeK kvs (a ++ b) = mergeK (mergeK kvs a) b := by
  unfold mergeK
  rw [List.foldl_append]
/-- the parts with two types -/
def Lib.bad (L M : Lib) : Lib := L.filter fun e => match M.get e.1 with
  | some t => !PyData.eqv (kd e.2) (kd t)
  | none => false
theorem Lib.agree_bad {L M : Lib} (fL : L.Fine) (fM : M.Fine) : Lib.agree L M = true ↔ Lib.bad L M = [] := by
  rw [Lib.agree, List.all_eq_true, Lib.bad, List.filter_eq_nil_iff]
  constructor
  · intro h e he k
    cases g : M.get e.1 with
    | none => rw [g] at k; cases k
    | some t =>
      rw [g] at k
      have m := Lib.get_some g
      have z := h _ m
      have inL : e.1 ∈ L.names := List.mem_map_of_mem he
      simp only [inL, decide_true, Bool.not_true, Bool.false_or] at z
      obtain ⟨t', m', et⟩ := (Lib.has_mem fL).mp z
      have ge := Lib.get_mem fL.nodup he
      rw [show L.get e.1 = some t' from Lib.get_mem fL.nodup m'] at ge
      have e2 : t' = e.2 := Option.some.inj ge
      rw [e2] at et
      have e3 := Ty.text_inj _ e.2 t (Nat.le_refl _) (fL.fits _ he).words (fM.fits _ m).words et
      have r : PyData.eqv (kd t) (kd t) = true := PySem.SeqAt.eqv_refl _ (PySem.SeqAt.canLay_of_shaped (kd_shp (fM.fits _ m)))
      have k2 : (!PyData.eqv (kd e.2) (kd t)) = true := k
      rw [e3, r] at k2
      cases k2
  · intro h e he
    by_cases c : e.1 ∈ L.names
    · obtain ⟨t, g⟩ := Lib.get_in c
      have m := Lib.get_some g
      have z := h _ m
      rw [show M.get (e.1, t).1 = some e.2 from Lib.get_mem fM.nodup he] at z
      have z2 : PyData.eqv (kd t) (kd e.2) = true := by simpa using z
      have e3 := kd_eq _ _ z2
      rw [(Lib.has_mem fL).mpr ⟨t, m, by rw [e3]⟩]
      simp
    · simp [c]
theorem Lib.fold_small {L M : Lib} (sL : L.Small) (sM : M.Small) (l8 : (Lib.united L M).length ≤ 8) : Lib.Small (M.foldl Lib.putL L) := by
  have pm := Lib.fold_perm sL.fine.nodup sM.fine.nodup
  refine ⟨⟨fun e he => Lib.united_words sL.fine sM.fine e (pm.mem_iff.mp he), fun e he => Lib.united_fits sL.fine sM.fine e (pm.mem_iff.mp he), by rw [pm.length_eq]; exact l8, Lib.fold_nodup sL.fine.nodup⟩, fun e he => ?_⟩
  rcases List.mem_append.mp (pm.mem_iff.mp he) with h | h
  · exact sL.small e (List.mem_filter.mp h).1
  · exact sM.small e h


end My
namespace My
open PySem PySem.Spec PyProof.Rows L2 TL
set_option pp.maxSteps 400
set_option pp.deepTerms false
/-! ### | of libraries -/
theorem make_libX {K : PySem.W.Frag} {C D CE : Addr} {H1 : Hp} {d : Addr} {kvs : List (Key × V)} {L : Lib} {Q : VK} {E : XK} (hd : H1 d = some (.dK kvs)) (hp : IsP C H1 L kvs) (words : ∀ e ∈ L, Wd e.1) (fits : ∀ e ∈ L, e.2.Fits) (nd : L.names.Nodup) (l100 : L.length ≤ 100)
    (q : L.length ≤ 8 → ∀ L' x H', List.Perm L' L → sortedS (Lib.names L') = true → Same H1 H' → IsL C D H' L' (.ref x) → Q (.ref x) H') (qE : ¬ L.length ≤ 8 → ∀ H', Same H1 H' → E (.ref CE) none H') :
    ∀ x dx, H1 x = none → H1 dx = none → dx ≠ x → sp_Library_initX K C D CE (.ref x :: ([.ref d] ++ [])) (upd (upd H1 dx (.own x)) x (.ins D dx [])) (fun v H2 => v = .non ∧ Q (.ref x) H2) E := by
  intro x dx hx hdx ne
  have s : Same H1 (upd (upd H1 dx (.own x)) x (.ins D dx [])) := ((Same.refl H1).new hdx).new (by rw [upd_ne (Ne.symm ne)]; exact hx)
  exact ⟨x, dx, .ref d, L, rfl, upd_same, ⟨d, kvs, rfl, s _ _ hd, hp.same s⟩, words, fits, nd, l100, fun few L' H' pm so k hl => ⟨rfl, q few L' x H' pm so (fun b o hb => k b o (ne_of_none hb hx) (s b o hb)) hl⟩, fun no H' k => qE no H' (s.trans k)⟩
def sp_Library_orX (K : PySem.W.Frag) (C D CO CL : Addr) : Sp := fun vs H Q E => ∃ v u, ∃ L M : Lib, vs = [v, u] ∧ IsL C D H L v ∧ IsL C D H M u ∧ L.Fine ∧ M.Fine ∧
  (Lib.agree L M = true → (Lib.united L M).length ≤ 8 → ∀ N x H', List.Perm N (Lib.united L M) → sortedS (Lib.names N) = true → Same H H' → IsL C D H' N (.ref x) → Q (.ref x) H') ∧
  (Lib.agree L M = true → ¬ (Lib.united L M).length ≤ 8 → ∀ H', Same H H' → E (.ref CL) none H') ∧ (Lib.agree L M = false → ∀ H', Same H H' → E (.ref CO) none H')
section
variable {P : Program} {w : World} {K : PySem.W.Frag} {mg : Str → Option Value} {base : Heap} {C_Type C_Library C_InvalidLibrary C_InvalidOperation : Addr}
theorem ok_Library_orX (T : Txt K mg C_Type C_Library) (e_InvalidOperation : ErrT K mg "InvalidOperation" C_InvalidOperation) (i_Library___init__X : MakX P w K mg base C_Library 3 ["self", "parts"] (sp_Library_initX K C_Type C_Library C_InvalidLibrary)) (p_Library_parts : PrpC P w K mg base C_Library "parts" 1 ["self"] (sp_Library_parts K C_Type C_Library)) (i_Library___init__ : MakC P w K mg base C_Library 3 ["self", "parts"] (sp_Library___init__ K C_Type C_Library)) (m_Library___contains__ : MetC P w K mg base C_Library "__contains__" 1 ["self", "x"] (sp_Library___contains__ K C_Type C_Library)) (m_Library___getitem__ : MetC P w K mg base C_Library "__getitem__" 2 ["self", "at"] (sp_Library___getitem__ K C_Type C_Library)) (m_Type___eq__ : MetC P w K mg base C_Type "__eq__" 1 ["self", "other"] (sp_Type_eqX K C_Type)) {f : Addr} {fd : FuncData} (F : Fun K "__or__" "Library.__or__" s_Library___or__ f fd) : FnOk P w K mg base (L2.CX P w) 5 f fd ["self", "other"] (sp_Library_orX K C_Type C_Library C_InvalidOperation C_InvalidLibrary) := by
  have nd := sc_Library___or__.nd
  refine F.okX sc_Library___or__ (fun vs H Q E h => ?_) (fun cdv A outer s H vs Q E hr h => ?_)
  · obtain ⟨v, u, L, M, rfl, _⟩ := h
    rfl
  · obtain ⟨v, u, L, M, rfl, hL, hM, fL, fM, q, qL, qO⟩ := h
    refine ⟨_, (pss_cons (ps_if (pt_not (pt_val (pe_callB call_isi (by rfl) T.b_isinstance (by decide +kernel) (pa_cons (pv 1) (pa_cons (pe_glob (v := .ref C_Library) rfl T.c_Library rfl) pa_nil))))) (pss_one (ps_raise rfl (takes_of rfl rfl rfl rfl) (pmk_own PySem.F.excBase_ValueError e_InvalidOperation.exc e_InvalidOperation.g e_InvalidOperation.k (raises_own e_InvalidOperation.b e_InvalidOperation.t) rfl))) pss_nil)
      (pss_cons (ps_set (i := 2) nd rfl (.inr rfl) (pe_propC p_Library_parts T.k_Library (hr.mono (by first | decide | omega)) (pv 1)))
      (pss_cons (ps_if (pt_val (pe_callB (cr_any rfl) (by rfl) T.b_any (by decide +kernel) (pa_cons (pe_lock (pe_lcD (own := [("name", 3)]) (by rfl) nd (pi_keys (pv 2)) (blkOk_by (own := [("name", 3)]) (N := ["self", "other", "added", "name"]) (sc := (defScope s_Library___or__)) (by decide +kernel)) (fun _ _ _ _ _ => pg_name (i := 3) nd rfl (Or.inl rfl)) (fun _ _ _ _ _ => pts_nil) (fun _ _ _ _ _ => (pe_and (pe_cmpR (op_inO m_Library___contains__ (hr.mono (by first | decide | omega))) (pv 3) (pv 0) (by rfl)) (pe_one (pe_cmpR (op_neC m_Type___eq__ (hr.mono (by first | decide | omega)) T.x_Type.nfirst T.x_Type.ne T.x_Type.under) (pe_ixO m_Library___getitem__ (hr.mono (by first | decide | omega)) (pv 0) (pv 3) T.x_Library.fn_getitem) (pe_dget (by first | exact Nat.lt_of_le_of_lt (Nat.add_le_add_left (by decide : 1 ≤ 64) _) hr.units | exact Nat.lt_of_le_of_lt (Nat.add_le_add_left (by decide : 4 ≤ 64) _) hr.units | exact Nat.lt_of_le_of_lt (Nat.add_le_add_left (by decide : 7 ≤ 64) _) hr.units) (pv 2) (pv 3) (fun _ _ => rfl)) (nomark _))))))) pa_nil))) (pss_one (ps_raise rfl (takes_of rfl rfl rfl rfl) (pmk_own PySem.F.excBase_ValueError e_InvalidOperation.exc e_InvalidOperation.g e_InvalidOperation.k (raises_own e_InvalidOperation.b e_InvalidOperation.t) rfl))) pss_nil)
      (pss_one (ps_ret (pe_makeX i_Library___init__X (hr.mono (by first | decide | omega)) rfl T.c_Library (passes_call (takes_of rfl rfl rfl rfl) fun _ _ _ _ h => h) (pa_cons (pe_dmerge2 (pe_fld (pv 0) rfl) (pv 2)) pa_nil))))))), ?_⟩
    obtain ⟨x, dx, d, p, q', kvs, rfl, hx, hd, hp, hn, hq⟩ := id hL
    obtain ⟨y, dy, d2, p2, q2, kvs2, rfl, hy, hd2, hp2, hn2, hq2⟩ := id hM
    have few := fL.few
    have fewM := fM.few
    refine ⟨.ref y, rfl, .ref y, .ref C_Library, .ref C_Library, .ref C_Library, true, rfl, .own _, lib_of_ins T.k_Library T.x_Library hy, kit_self _, true, rfl, iteF ?_⟩
    refine nx_go ?_
    dsimp only
    refine ⟨.ref y, rfl, y, dy, _, rfl, hy, .ref y, M, rfl, hM, fM, fun da ls H1 s1 nda hda hpa => ?_⟩
    refine asg_go2 ?_
    dsimp only
    have hx1 := s1 _ _ hx
    have hL1 := hL.same s1
    have few2 := fM.few
    have la := hpa.len
    refine ⟨da, _, hda, trivial, fun od => ?_⟩
    have hf : Held H1 (upd H1 da (.frz od (.dK ls))) := held_dk hda
    have hz : upd H1 da (.frz od (.dK ls)) da = some (.frz od (.dK ls)) := upd_same
    have hxd : x ≠ da := ne_of_none hx nda
    have sF : Same H (upd H1 da (.frz od (.dK ls))) := s1.mut nda
    refine ⟨.ref da, rfl, da, od, rfl, .inl ⟨ls, upd_same, fun D hD => ?_⟩⟩
    refine lc_keys (fun i H' => H' D = some (.lst (((M.take i).map fun e => decide (e.1 ∈ L.names) && !L.has e).map V.bl)) ∧ Same (upd H1 da (.frz od (.dK ls))) H') ?_ (fun i H' _ hP => hP.2 _ _ upd_same) (fun i k v H' hk hP => ?_) (fun H' hP => ?_)
    · exact ⟨by rw [upd_same, List.take_zero]; rfl, (Same.refl _).mut hD⟩
    · obtain ⟨hD1, s2⟩ := hP
      obtain ⟨e, he, rfl, ht⟩ := hpa.at_ hk
      have io := lt_of_get he
      have s02 := sF.trans s2
      have hL2 := hL.same s02
      refine ⟨rfl, tyes ?_⟩
      have hda2 : H' da = some (.frz od (.dK ls)) := s2 _ _ upd_same
      refine ⟨.str e.1, rfl, .ref x, rfl, x, dx, _, rfl, s02 _ _ hx, .ref x, .str e.1, L, rfl, hL2, .inl ⟨e.1, rfl, _, rfl, ?_⟩⟩
      dsimp only
      simp only [Bool.false_eq_true, if_false]
      refine ⟨_, rfl, ?_⟩
      by_cases c : e.1 ∈ L.names
      · rw [if_pos (decide_eq_true c)]
        obtain ⟨t', et⟩ := Lib.get_in c
        refine ⟨.ref x, rfl, .str e.1, rfl, x, dx, _, rfl, s02 _ _ hx, .ref x, e.1, t', L, rfl, hL2, et, fun u' hu => ?_⟩
        have g : DGet H' da (.str e.1) (some v) := .inl ⟨ls, Sum.inr e.1, .inr ⟨od, hda2⟩, rfl, (hpa.val fM.nodup hk).symm⟩
        have ht2 := IsT.same s2 _ _ (IsT.held hf _ _ ht)
        obtain ⟨b, db, _, _, _, rfl, hb, _⟩ := hu.at
        obtain ⟨b2, db2, _, _, _, rfl, hb2, _⟩ := ht2.at
        refine ⟨.ref da, rfl, .str e.1, rfl, da, .ref b2, rfl, g, b, db, _, b2, db2, _, rfl, rfl, hb, hb2, .ref b, .ref b2, t', rfl, hu, .inl ⟨e.2, ht2, fun H3 s3 => ⟨_, rfl, _, s3 _ _ hD1, lt_line' ?_, ?_, (s2.trans s3).mut hD⟩⟩⟩
        · rw [List.length_map, List.length_map, List.length_take]
          omega
        · rw [upd_same, take_next he, List.map_append, List.map_append]
          simp [c, Lib.has, et]
      · rw [if_neg (by simpa using c)]
        refine ⟨_, hD1, lt_line' ?_, ?_, s2.mut hD⟩
        · rw [List.length_map, List.length_map, List.length_take]
          omega
        · rw [upd_same, take_next he, List.map_append, List.map_append]
          simp [c]
    · obtain ⟨hD1, s2⟩ := hP
      rw [la, List.take_length] at hD1
      have nDd : D ≠ da := fun z => by
        rw [z, upd_same] at hD
        cases hD
      have s3 := same_unlock hda s2
      refine ⟨s2 _ _ upd_same, D, _, rfl, SqL.of ((upd_ne nDd).trans hD1), ?_⟩
      have hda3 : upd H' da (.dK ls) da = some (.dK ls) := upd_same
      generalize upd H' da (.dK ls) = H3 at s3 hda3
      have eA : ((M.map fun e => decide (e.1 ∈ L.names) && !L.has e).any id) = !Lib.agree L M := by
        rw [List.any_map, Lib.agree, List.not_all_eq_any_not]
        refine congrArg (List.any M) (funext fun e => ?_)
        show (decide (e.1 ∈ L.names) && !L.has e) = _
        cases decide (e.1 ∈ L.names) <;> cases L.has e <;> rfl
      rw [eA]
      refine ⟨_, rfl, ?_⟩
      have s13 := s1.trans s3
      by_cases ag : Lib.agree L M = true
      · rw [ag]
        simp only [Bool.not_true, Bool.false_eq_true, if_false]
        refine nx_go ?_
        dsimp only
        refine fun D2 hD2 => ?_
        have m1 : Same H3 (upd H3 D2 (.dK [])) := (Same.refl H3).mut hD2
        have ek : mergeK [] kvs = kvs := mergeK_app kvs [] (by rw [List.nil_append]; exact names_keys fL.nodup hp.keys)
        have lk := hp.len
        refine ⟨.ref x, rfl, x, C_Library, dx, _, .ref d, rfl, m1 _ _ (s13 _ _ hx), T.k_Library, T.x_Library.n_parts, rfl, d, kvs, rfl, (ne_of_none (s13 _ _ hd) hD2).symm, upd_same, .inl (m1 _ _ (s13 _ _ hd)), by omega, ?_⟩
        rw [ek]
        have m2 : Same H3 (upd (upd H3 D2 (.dK [])) D2 (.dK kvs)) := m1.mut hD2
        refine ⟨.ref da, rfl, da, ls, rfl, (ne_of_none hda3 hD2).symm, upd_same, .inl (m2 _ _ hda3), by omega, ?_⟩
        have m3 := m2.mut (o := .dK (mergeK kvs ls)) hD2
        have hpF : IsP C_Type (upd (upd (upd H3 D2 (.dK [])) D2 (.dK kvs)) D2 (.dK (mergeK kvs ls))) (M.foldl Lib.putL L) (mergeK kvs ls) := IsP.merge ((hpa.same s3).same m3) ((hp.same s13).same m3)
        have pmF := Lib.fold_perm fL.nodup fM.nodup
        have s1F := s13.trans m3
        have lU := Lib.united_len fL fM
        have pl := pmF.length_eq
        refine make_libX upd_same hpF (fun e he => Lib.united_words fL fM e (pmF.mem_iff.mp he)) (fun e he => Lib.united_fits fL fM e (pmF.mem_iff.mp he)) (Lib.fold_nodup fL.nodup) (by omega) (fun l8 N x' H' pm so s5 hN => q ag (by omega) N x' H' (pm.trans pmF) so (s1F.trans s5) hN) (fun l8 H' s5 => qL ag (by omega) H' (s1F.trans s5))
      · have ag' : Lib.agree L M = false := by simpa using ag
        rw [ag']
        simp only [Bool.not_false, if_true]
        exact qO ag' _ s13
end


end My
namespace My
open PySem PySem.Spec PyProof.Rows L2 TL
set_option pp.maxSteps 400
set_option pp.deepTerms false
def sp__is_renaming (K : PySem.W.Frag) : Sp := fun vs H Q _ => ∃ d p ws, ∃ ys : List Str, vs = [.ref d, .ref p] ∧ IsN H d ws ∧ H p = some (.tup (ys.map V.str)) ∧ ws.length = ys.length ∧ ys.length ≤ 100 ∧ (∀ y ∈ ys, ∃ z, look ws y = some z ∧ Wd z) ∧ ∀ H', Same H H' → Q (.bl true) H'
def spr_Type_renamed (n : Nat) (K : PySem.W.Frag) (C : Addr) : Sp := fun vs H Q _ => ∃ v t d ws f, vs = [v, .ref d] ∧ IsT C H t v ∧ IsN H d ws ∧ (∀ ys, IsAtoms t ys → ws.length = ys.length) ∧ (∀ x ∈ t.places, look ws x = some (f x) ∧ Wd (f x)) ∧ t.order < n ∧ t.Fits ∧ Made C H Q (Ty.ren f t)
def sp_Type_renamed (K : PySem.W.Frag) (C : Addr) : Sp := spr_Type_renamed 6 K C
section
variable {P : Program} {w : World} {K : PySem.W.Frag} {mg : Str → Option Value} {base : Heap} {C_Type : Addr}
theorem ok__is_renaming (T : Txt K mg C_Type C_Library) (c_is_word : CalN P w K mg base "is_word" 1 ["value"] (sp_is_word K)) {f : Addr} {fd : FuncData} (F : Fun K "_is_renaming" "_is_renaming" s__is_renaming f fd) : FnOk P w K mg base CX0 2 f fd ["names", "atoms"] (sp__is_renaming K) := by
  have nd := sc__is_renaming.nd
  refine F.ok sc__is_renaming (fun vs H Q E h => ?_) (fun cdv A outer s H vs Q E hr h => ?_)
  · obtain ⟨d, p, ws, ys, rfl, _⟩ := h
    rfl
  · obtain ⟨d, p, ws, ys, rfl, hd, hp, hn, hy, hw, q⟩ := h
    refine ⟨_, (pss_cons (ps_if (PW.pt (pw_or (pt_not (pt_val (pe_callB call_isi (by rfl) T.b_isinstance (by decide +kernel) (pa_cons (pv 0) (pa_cons (pe_bltn (v := .ty "dict") (u := .type "dict") (by rfl) T.b_dict (by decide +kernel) rfl) pa_nil))))) (pw_or1 (pt_cmpR op_ne (pe_callB call_lenD (by rfl) T.b_len (by decide +kernel) (pa_cons (pv 0) pa_nil)) (pe_callB call_len (by rfl) T.b_len (by decide +kernel) (pa_cons (pv 1) pa_nil)) (nomark _))))) (pss_one (ps_ret pe_bl)) pss_nil)
      (pss_one (ps_ret (pe_callB (cr_all rfl) (by rfl) T.b_all (by decide +kernel) (pa_cons (pe_lcD (own := [("word", 2)]) (by rfl) nd (pi_tup (pv 1)) (blkOk_by (own := [("word", 2)]) (N := ["names", "atoms", "word"]) (sc := (defScope s__is_renaming)) (by decide +kernel)) (fun _ _ _ _ _ => pg_name (i := 2) nd rfl (Or.inl rfl)) (fun _ _ _ _ _ => pts_nil) (fun _ _ _ _ _ => (pe_and (pe_cmp (pc_din (by first | exact Nat.lt_of_le_of_lt (Nat.add_le_add_left (by decide : 1 ≤ 64) _) hr.units | exact Nat.lt_of_le_of_lt (Nat.add_le_add_left (by decide : 4 ≤ 64) _) hr.units | exact Nat.lt_of_le_of_lt (Nat.add_le_add_left (by decide : 7 ≤ 64) _) hr.units) (pv 2) (pv 0)) (by rfl)) (pe_one (pe_callN c_is_word (hr.mono (by first | decide | omega)) rfl (pa_cons (pe_dget (by first | exact Nat.lt_of_le_of_lt (Nat.add_le_add_left (by decide : 1 ≤ 64) _) hr.units | exact Nat.lt_of_le_of_lt (Nat.add_le_add_left (by decide : 4 ≤ 64) _) hr.units | exact Nat.lt_of_le_of_lt (Nat.add_le_add_left (by decide : 7 ≤ 64) _) hr.units) (pv 0) (pv 2) (fun _ _ => rfl)) pa_nil)))))) pa_nil))))), ?_⟩
    refine ⟨.ref d, rfl, .ref d, .ty "dict", .type "dict", .type "dict", true, rfl, .ty _, .base (.dK hd), kit_ty (by decide +kernel), true, rfl, iteF ?_⟩
    refine ⟨.ref d, rfl, d, _, rfl, hd, .ref p, rfl, .ref p, _, rfl, .inr ⟨_, SqT.of hp, rfl⟩, rfl, false, congrArg V.bl (by rw [List.length_map, List.length_map, hn]; simp), iteF ?_⟩
    refine nx_go ?_
    dsimp only
    refine ⟨.ref p, rfl, p, rfl, ⟨_, SqT.of hp⟩, fun D hD => lc_tup (xs := ys.map V.str) (fun i H' => H' D = some (.lst ((List.replicate i true).map V.bl)) ∧ Same H H') ?_ (fun i H1 _ hP => SqT.of (hP.2 _ _ hp)) (fun i x H1 hx hP => ?_) (fun H1 hP => ?_)⟩
    · exact ⟨upd_same, (Same.refl H).mut hD⟩
    · obtain ⟨hD1, s1⟩ := hP
      have io := lt_of_get hx
      rw [List.length_map] at io
      rw [List.getElem?_map, List.getElem?_eq_getElem io] at hx
      cases hx
      obtain ⟨z, hz, wz⟩ := hw _ (List.getElem_mem io)
      have g : DGet H1 d (.str ys[i]) (some (.str z)) := IsN.get (s1 _ _ hd) hz
      have zl := isW_len wz.1
      refine ⟨rfl, tyes ?_⟩
      refine ⟨.str ys[i], rfl, .ref d, rfl, d, _, rfl, g, true, rfl, iteT ?_⟩
      refine ⟨.ref d, rfl, .str ys[i], rfl, d, .str z, rfl, g, .str z, rfl, .inl ⟨z, rfl, by omega, wz.2⟩, fun H2 s2 => ?_⟩
      refine ⟨_, s2 _ _ hD1, lt_line' ?_, ?_, (s1.trans s2).mut hD⟩
      · rw [List.length_map, List.length_replicate]
        omega
      · rw [upd_same, List.replicate_succ', List.map_append, wz.1]
        rfl
    · obtain ⟨hD1, s1⟩ := hP
      refine ⟨D, _, rfl, SqL.of hD1, ?_⟩
      have e : (List.replicate (ys.map V.str).length true).all id = true := List.all_eq_true.mpr fun b hb => by
        rw [List.eq_of_mem_replicate hb]
        rfl
      rw [e]
      exact q _ s1
theorem ok_Type_renamed (T : Txt K mg C_Type C_Library) (i_Type___init__ : MakC P w K mg base C_Type 4 ["self", "inputs", "atom"] (sp_Type___init__ K C_Type)) (c__is_renaming : CalN P w K mg base "_is_renaming" 2 ["names", "atoms"] (sp__is_renaming K)) (p_Type_atoms : PrpC P w K mg base C_Type "atoms" 1 ["self"] (sp_Type_atoms K C_Type)) {f : Addr} {fd : FuncData} (F : Fun K "renamed" "Type.renamed" s_Type_renamed f fd) (M : Meth K C_Type "renamed" f) (B : Binds K fd ["self", "names"] []) : ∀ n : Nat, FnOk P w K mg base CX0 (6 + n) f fd ["self", "names"] (spr_Type_renamed n K C_Type)
  | 0 => by
    refine F.ok sc_Type_renamed (fun vs H Q E h => ?_) (fun cdv A outer s H vs Q E hr h => ?_) <;> (obtain ⟨_, _, _, _, _, _, _, _, _, _, z, _⟩ := h; exact absurd z (Nat.not_lt_zero _))
  | n + 1 => by
    have ih := ok_Type_renamed T i_Type___init__ c__is_renaming p_Type_atoms F M B n
    have m_Type_renamed : MetC P w K mg base C_Type "renamed" (6 + n) ["self", "names"] (spr_Type_renamed n K C_Type) := ⟨f, fd, ih, M, B⟩
    have nd := sc_Type_renamed.nd
    refine F.ok sc_Type_renamed (fun vs H Q E h => ?_) (fun cdv A outer s H vs Q E hr h => ?_)
    · obtain ⟨v, t, d, ws, f', rfl, _⟩ := h
      rfl
    · obtain ⟨v, t, d, ws, f', rfl, ht, hd, hn, hw, lo, ft, q⟩ := h
      have hr : Room (6 + n) (A.deeper (envOfC "Type.renamed" (defScope s_Type_renamed) s.heap.objs.size f cdv)) := hr
      refine ⟨_, (pss_cons (ps_if (pt_not (pt_val (pe_callN c__is_renaming (hr.mono (by first | decide | omega)) rfl (pa_cons (pv 1) (pa_cons (pe_propC p_Type_atoms T.k_Type (hr.mono (by first | decide | omega)) (pv 0)) pa_nil))))) (pss_one ps_never) pss_nil)
      (pss_cons (ps_setLcD (i := 2) (own := [("one", 3)]) (by rfl) nd rfl rfl (sw_true rfl rfl rfl (by decide +kernel)) (pi_tup (pe_fld (pv 0) rfl)) (blkOk_by (own := [("one", 3)]) (N := ["self", "names", "inputs", "one", "word"]) (sc := (defScope s_Type_renamed)) (by decide +kernel)) (fun _ _ _ _ _ => pg_name (i := 3) nd rfl (Or.inl rfl)) (fun _ _ _ _ _ => pts_nil) (fun _ _ _ _ _ => (pe_methC m_Type_renamed T.k_Type (hr.mono (by first | decide | omega)) (pv 3) (pa_cons (pe_dcD (own := [("word", 4)]) (by rfl) nd (pi_tup (pe_propC p_Type_atoms T.k_Type (hr.mono (by first | decide | omega)) (pv 3))) (blkOk_by (own := [("word", 4)]) (N := ["self", "names", "inputs", "one", "word"]) (sc := { kind := .function, names := [(".0", .local), ("one", .local), ("names", .cell)], isGenerator := false, isCoroutine := false, more := [] }) (by decide +kernel)) (fun _ _ _ _ _ => pg_name (i := 4) nd rfl (Or.inl rfl)) (fun _ _ _ _ _ => pts_nil) (fun _ _ _ _ _ => (pv 4)) (fun _ _ _ _ _ => (pe_dget (by first | exact Nat.lt_of_le_of_lt (Nat.add_le_add_left (by decide : 1 ≤ 64) _) hr.units | exact Nat.lt_of_le_of_lt (Nat.add_le_add_left (by decide : 4 ≤ 64) _) hr.units | exact Nat.lt_of_le_of_lt (Nat.add_le_add_left (by decide : 7 ≤ 64) _) hr.units) (pv 1) (pv 4) (fun _ _ => rfl)))) pa_nil))))
      (pss_one (ps_ret (pe_makeC i_Type___init__ (hr.mono (by first | decide | omega)) rfl T.c_Type (pa_cons (pe_callTy call_tuple_of (by rfl) T.b_tuple (by decide +kernel) (pa_cons (pv 2) pa_nil)) (pa_cons (pe_dget (by first | exact Nat.lt_of_le_of_lt (Nat.add_le_add_left (by decide : 1 ≤ 64) _) hr.units | exact Nat.lt_of_le_of_lt (Nat.add_le_add_left (by decide : 4 ≤ 64) _) hr.units | exact Nat.lt_of_le_of_lt (Nat.add_le_add_left (by decide : 7 ≤ 64) _) hr.units) (pv 1) (pe_fld (pv 0) rfl) (fun _ _ => rfl)) pa_nil))))))), ?_⟩
      obtain ⟨b, dx, p, q', rs, rfl, hb, hp, hl, hq⟩ := ht.at
      have few := Fits_ins_len ft
      have fp := ft.few
      have lr := hl.len
      have ft' : (Ty.mk t.ins t.atom).Fits := by rw [Ty.mk_eta]; exact ft
      have eo : t.order = Ty.orderL t.ins := by cases t; rw [Ty.order]; rfl
      refine ⟨.ref d, rfl, .ref b, rfl, b, dx, _, rfl, hb, .ref b, t, rfl, ht, ft, fun p1 ys H1 s1 hp1 ia => ?_⟩
      refine ⟨d, p1, ws, ys, rfl, s1 _ _ hd, hp1, hn ys ia, Nat.le_trans ia.2.2.2 (by omega), fun y hy => ⟨f' y, hw y ((ia.2.2.1 y).mp hy)⟩, fun H2 s2 => ⟨true, rfl, iteF ?_⟩⟩
      refine nx_go ?_
      dsimp only
      have s02 := s1.trans s2
      clear s1 s2 hp1
      refine cut_set (fun v H' => ∃ D rs', v = .ref D ∧ H' D = some (.lst rs') ∧ IsTs C_Type H' (t.ins.map (Ty.ren f')) rs' ∧ Same H H') (fun Q' q' => ?_) ?_
      · refine ⟨.ref b, rfl, b, C_Type, dx, _, .ref p, rfl, s02 _ _ hb, T.k_Type, T.x_Type.n_inputs, rfl, p, rfl, ⟨rs, SqT.of (s02 _ _ hp)⟩, fun D hD => ?_⟩
        have nD : H D = none := s02.free hD
        refine lc_tup (xs := rs) (fun i H' => ∃ rs', H' D = some (.lst rs') ∧ IsTs C_Type H' ((t.ins.take i).map (Ty.ren f')) rs' ∧ Same H H') ?_ (fun i H' _ hP => ?_) (fun i y H' hy hP => ?_) (fun H' hP => ?_)
        · exact ⟨[], upd_same, by rw [List.take_zero]; exact IsTs.nil, s02.mut nD⟩
        · obtain ⟨_, _, _, s2⟩ := hP
          exact SqT.of (s2 _ _ hp)
        · obtain ⟨rs', hD1, hl1, s2⟩ := hP
          obtain ⟨s, es, hs⟩ := hl.get hy
          have hs2 := IsT.same s2 s y hs
          obtain ⟨b', dx', _, _, _, rfl, hb', _⟩ := hs2.at
          have sm := List.mem_of_getElem? es
          have fs : s.Fits := ft'.ins sm
          have lo' : s.order < n := by
            have := Ty.low_ins sm
            omega
          have sub : ∀ x ∈ s.places, x ∈ t.places := fun x hx => by
            rw [Ty.places_of t]
            exact List.mem_append_left _ (Ty.places_sub sm x hx)
          refine ⟨rfl, tyes ?_⟩
          refine ⟨.ref b', rfl, b', dx', _, rfl, hb', rfl, ?_⟩
          refine ⟨.ref b', rfl, b', dx', _, rfl, hb', .ref b', s, rfl, hs2, fs, fun p2 zs H3 s3 hp2 ja => ?_⟩
          refine ⟨p2, rfl, ⟨_, SqT.of hp2⟩, fun D2 hD2 => ?_⟩
          have s23 := s2.trans s3
          refine dc_tup (xs := zs.map V.str) (fun i H' => IsN H' D2 ((zs.take i).map fun z => (z, f' z)) ∧ Same H3 H') ?_ (fun i H' _ hP => SqT.of (hP.2 _ _ hp2)) (fun j x H4 hx hP => ?_) (fun H4 hP => ?_)
          · exact ⟨by rw [List.take_zero]; exact upd_same, (Same.refl H3).mut hD2⟩
          · obtain ⟨hN, s4⟩ := hP
            have jo := lt_of_get hx
            rw [List.length_map] at jo
            rw [List.getElem?_map, List.getElem?_eq_getElem jo] at hx
            cases hx
            have zt := sub _ ((ja.2.2.1 _).mp (List.getElem_mem jo))
            have g : DGet H4 d (.str zs[j]) (some (.str (f' zs[j]))) := IsN.get (s4 _ _ (s23 _ _ hd)) (hw _ zt).1
            refine ⟨rfl, tyes ?_⟩
            refine ⟨.str zs[j], rfl, .ref d, rfl, .str zs[j], rfl, d, .str (f' zs[j]), rfl, g, _, Sum.inr zs[j], rfl, hN, lt_line' ?_, ?_, s4.mut hD2⟩
            · have := ja.2.2.2
              have := fs.few
              rw [List.length_map, List.length_map, List.length_take]
              omega
            · have out : zs[j] ∉ zs.take j := fun k => by
                have nd := ja.1
                rw [← List.take_append_drop j zs, List.nodup_append] at nd
                have e : zs[j] ∈ zs.drop j := List.mem_iff_getElem?.mpr ⟨0, by rw [List.getElem?_drop]; exact List.getElem?_eq_getElem jo⟩
                exact nd.2.2 _ k _ e rfl
              show upd H4 D2 _ D2 = _
              rw [upd_same, putK_new _ (by rw [valV_look, look_out _ out]; rfl), take_next (List.getElem?_eq_getElem jo), List.map_append, List.map_append]
              rfl
          · obtain ⟨hN, s4⟩ := hP
            rw [List.length_map, List.take_length] at hN
            have s24 := s23.trans s4
            refine ⟨.ref b', s, D2, _, f', rfl, IsT.same (s3.trans s4) s _ hs2, hN, fun ys' iy => ?_, fun x hx => ⟨look_in zs ((ja.2.2.1 x).mpr hx), (hw x (sub x hx)).2⟩, lo', fs, fun x H5 s5 hx => ?_⟩
            · rw [List.length_map]
              exact ja.len iy
            · have s35 := (s3.trans s4).trans s5
              refine ⟨rs', s35 _ _ hD1, lt_line' (by rw [hl1.len, List.length_map, List.length_take]; omega), rs' ++ [.ref x], upd_same, ?_, (s2.trans s35).mut nD⟩
              rw [take_next es, List.map_append]
              have h3 : Held H5 (upd H5 D (.lst (rs' ++ [.ref x]))) := held_lst (s35 _ _ hD1)
              exact (IsTs.held h3 _ _ (IsTs.same s35 _ _ hl1)).app (.cons (IsT.held h3 _ _ hx) .nil)
        · obtain ⟨rs', hD1, hl1, s2⟩ := hP
          rw [lr, List.take_length] at hl1
          exact q' _ _ ⟨D, rs', rfl, hD1, hl1, s2⟩
      rintro v H2 ⟨D, rs', rfl, hD, hl2, s2⟩
      have at_ : t.atom ∈ t.places := by
        rw [Ty.places_of t]
        exact List.mem_append_right _ (List.mem_singleton.mpr rfl)
      refine ⟨.ref D, rfl, D, rs', rfl, .inl ⟨SqL.of hD, fun l hl9 => ?_⟩⟩
      have s9 := s2.new (o := .tup rs') hl9
      refine ⟨.ref d, rfl, .ref b, rfl, b, C_Type, dx, _, .str t.atom, rfl, s9 _ _ hb, T.k_Type, T.x_Type.n_atom, rfl, d, .str (f' t.atom), rfl, IsN.get (s9 _ _ hd) (hw _ at_).1, ?_⟩
      have fit := fits_ren ft fun x hx => (hw x hx).2
      rw [Ty.ren_eq] at q fit
      exact make_ty upd_same (IsTs.same ((Same.refl H2).new hl9) _ _ hl2) fit fun x H' s h => q x H' (s9.trans s) h
end


end My
namespace My
open PySem PySem.Spec PyProof.Rows L2 TL
/-! ### len(s) of a set of texts; list(d.values()) -/
section
variable {X : Cx} {e : Expr} {te : TE} {p apos cpos pos : PySem.Pos}
def rLenS (P : Program) (w : World) : List V → Hp → VK → Prop := fun xs H Q => ∃ (a : Addr) (L : List Str), xs = [V.ref a] ∧ H a = some (SetSO P w a L) ∧ L.length < 64 ∧ (L.Nodup → Q (.int ((L.length : Nat) : Int)) H)
theorem call_lenS : CallR X (.builtin "len") (rLenS X.prog X.w) := by
  intro pins s σ H xs us Q I r h
  obtain ⟨a, L, rfl, ha, h64, q⟩ := h
  rw [Vals.ref1 r]
  have R : SetS X.prog X.w s.heap a L := (I.hok a _ ha).1
  obtain ⟨⟨es, ep, t⟩, ho, F⟩ := R
  have sz : es.size = L.length := F.ok.sz
  have ft : t.fits es.size = true := F.ok.fit
  exact PySem.call_len_set ho ⟨rfl, rfl, rfl⟩ rfl ft (show ((es.size : Nat) : Int) < 2 ^ 63 by omega) ⟨.int ((L.length : Nat) : Int), H, I.tok _, ⟨_, by rw [sz]⟩, q F.nd⟩
def rValsL : V → Hp → VK → Prop := fun x H Q => ∃ (d : Addr) (kvs : List (Key × V)), x = .ref d ∧ H d = some (.dK kvs) ∧ ∀ p, H p = none → Q (.ref p) (upd H p (.lst (kvs.map (·.2))))
def tListVals (te : TE) : TE := fun σ H Q => te σ H fun x H1 => rValsL x H1 Q
theorem vals_snd : ∀ {kvs : List (Key × V)} {vs : List (Key × Value)}, KV kvs vs → Vals (kvs.map (·.2)) (vs.map (·.2))
  | _, _, .nil => .nil
  | _, _, .cons a r => .cons a.2 (vals_snd r)
theorem pe_listVals (hc : X.calm = true) (he : PE X e te) (hg : Gl X "list") (hm : X.mg "list" = none) (hv : bootBuiltins "list" = some (.type "list")) (hbase : attributeBase e "values" X.env (eval e X.env) = eval e X.env := by rfl) (hline : (apos.endLine == cpos.line) = true := by rfl)
    (hs : starEach [.Call (.Attribute e "values" apos) [] [] cpos] X.env = (false, eval (.Call (.Attribute e "values" apos) [] [] cpos) X.env) :: starEach [] X.env := by rfl) :
    PE X (.Call (.Name "list" p) [.Call (.Attribute e "values" apos) [] [] cpos] [] pos) (tListVals te) := by
  refine ⟨fun pins s σ H Q I hq => ?_⟩
  refine wpAny_Call_Name_kw (ld_blt I hg hm hv ?_)
  refine PyProof.Rows.callWith_type1 ?_ hs rfl
  rw [hs]
  show wpAny _ _ (spliced ((false, eval (.Call (.Attribute e "values" apos) [] [] cpos) X.env) :: backTo pos (starEach [] X.env))) _ _ s
  refine Calls.spliced_cons ?_
  refine wpAny_Call_method (T := "dict") (id := "dict.values") hbase rfl hline F.plainAttrs_dict F.slot_dict_values F.type_dict_values (thn (he.run pins s σ H _ I hq) fun u s1 ⟨x, H1, I1, rx, d, kvs, ex, hd, q⟩ => ?_)
  subst ex
  obtain rfl : u = Value.ref d := rx
  obtain ⟨hz, hs0, vs, kv, hdo⟩ := I1.hok d _ hd
  obtain ⟨ep, hat⟩ := hdo.dictAt
  have lk : kvs.length = vs.length := Paired.length kv
  have I2 : Inv X pins σ H1 { s1 with heap := s1.heap.push { cls := .type "dict_values", data := .fields #[.ref d] } } := I1.kept (t' := s1.toks) fun b ob q => Heap.get?_push_of_some _ q
  refine ⟨hdo.typeIs, hdo.mapOf.noDict, ?_⟩
  show wpAny _ _ (callWith cpos (.builtin "dict.values") [.ref d] [] []) _ X.xe s1
  refine method_meetsIn F.slot_dict_values F.entry_dict_values rfl (PySem.evalArgs_none ⟨rfl, hdo.typeIs, F.args_dict_values_1 _, _, meets_dict_values (mixKind X.prog X.w) d hs0, ⟨vs, hdo⟩, ?_⟩)
  refine Calls.spliced_nil ?_
  refine PySem.W.kdl_call (PySem.W.kdl_values (knd := mixKind X.prog X.w) (kvs := vs) (ep := ep) (d := d)) (I1.ok.hd hc) ⟨⟨_, Heap.get?_push_size _ rfl, rfl, rfl⟩, hat.push _⟩ (by omega) fun h' tk acc c hk hS hacc => ?_
  have J := I2.kept (t' := tk) hk
  have ev : acc.toList = vs.map (·.2) := by
    refine PySem.W.kdl_vals_eq acc.toList (by rw [Array.length_toList]; exact hacc.1) fun j v e => hacc.2 j v (by rw [← Array.getElem?_toList]; exact e)
  have new : ObjOk X.prog X.w (upd H1 (s1.heap.push { cls := .type "dict_values", data := .fields #[.ref d] }).objs.size (.lst (kvs.map (·.2)))) h' (s1.heap.push { cls := .type "dict_values", data := .fields #[.ref d] }).objs.size (.lst (kvs.map (·.2))) :=
    ⟨by rw [List.length_map]; exact hz, acc.toList, c, by rw [ev]; exact vals_snd kv, by rw [Array.toArray_toList]; exact hS⟩
  exact ⟨.ref _, upd H1 _ (.lst (kvs.map (·.2))), I2.laid (t' := tk) hk (Nat.le_refl _) new, rfl, q _ (I2.hok.fresh (Nat.le_refl _))⟩
end


end My
namespace My
open PySem PySem.Spec PyProof.Rows L2 TL
set_option pp.maxSteps 400
set_option pp.deepTerms false
/-! ### libraries with a part, with other names, with other atoms -/
/-- other names of parts -/
def Lib.renK (f : Str → Str) (L : Lib) : Lib := L.map fun e => (f e.1, e.2)
theorem Lib.renK_names (f : Str → Str) (L : Lib) : (L.renK f).names = L.names.map f := by
  rw [Lib.renK, Lib.names, Lib.names, List.map_map, List.map_map]
  rfl
theorem nodup_on {α : Type} {f : α → α} {l : List α} (inj : ∀ a ∈ l, ∀ b ∈ l, f a = f b → a = b) (nd : l.Nodup) : (l.map f).Nodup := by
  refine List.pairwise_map.mpr (List.Pairwise.imp_of_mem (fun {a b} ha hb ne e => ne (inj a ha b hb e)) nd)
theorem Lib.renK_fine {f : Str → Str} {L : Lib} (fL : L.Fine) (w : ∀ n ∈ L.names, Wd (f n)) (inj : ∀ n ∈ L.names, ∀ m ∈ L.names, f n = f m → n = m) : (L.renK f).Fine := by
  refine ⟨fun e he => ?_, fun e he => ?_, by rw [Lib.renK, List.length_map]; exact fL.few, by rw [Lib.renK_names]; exact nodup_on inj fL.nodup⟩
  · obtain ⟨x, hx, rfl⟩ := List.mem_map.mp he
    exact w _ (List.mem_map_of_mem hx)
  · obtain ⟨x, hx, rfl⟩ := List.mem_map.mp he
    exact fL.fits x hx
def sp_Library_with_partX (K : PySem.W.Frag) (C D CE : Addr) : Sp := fun vs H Q E => ∃ v n u t, ∃ L : Lib, vs = [v, .str n, u] ∧ IsL C D H L v ∧ IsT C H t u ∧ L.Fine ∧ Wd n ∧ t.Fits ∧
  ((Lib.putL L (n, t)).length ≤ 8 → ∀ N x H', List.Perm N (Lib.putL L (n, t)) → sortedS (Lib.names N) = true → Same H H' → IsL C D H' N (.ref x) → Q (.ref x) H') ∧
  (¬ (Lib.putL L (n, t)).length ≤ 8 → ∀ H', Same H H' → E (.ref CE) none H')
theorem Lib.putL_lenW (L : Lib) (e : Str × Ty) : (L.putL e).length ≤ L.length + 1 := by
  unfold Lib.putL
  split
  · rw [List.length_map]
    omega
  · rw [List.length_append]
    exact Nat.le_refl _
def sp__are_words (K : PySem.W.Frag) : Sp := sp__is_renaming K
def sp_Library_renamed (K : PySem.W.Frag) (C D : Addr) : Sp := fun vs H Q _ => ∃ v d ws f, ∃ L : Lib, vs = [v, .ref d] ∧ IsL C D H L v ∧ L.Fine ∧ IsN H d ws ∧ ws.length = L.length ∧ (ws.map (·.2)).Nodup ∧ (∀ n ∈ L.names, look ws n = some (f n) ∧ Wd (f n)) ∧ (∀ n ∈ L.names, ∀ m ∈ L.names, f n = f m → n = m) ∧
  ∀ N x H', List.Perm N (Lib.renK f L) → sortedS (Lib.names N) = true → Same H H' → IsL C D H' N (.ref x) → Q (.ref x) H'
def sp_Library_with_atoms (K : PySem.W.Frag) (C D : Addr) : Sp := fun vs H Q _ => ∃ v d ws f, ∃ L : Lib, vs = [v, .ref d] ∧ IsL C D H L v ∧ L.Fine ∧ (∀ e ∈ L, e.2.places.length ≤ 7) ∧ IsN H d ws ∧ (∀ ys : List Str, ys.Nodup → (∀ a, a ∈ ys ↔ ∃ e ∈ L, a ∈ e.2.places) → ws.length = ys.length) ∧ (∀ e ∈ L, ∀ a ∈ e.2.places, look ws a = some (f a) ∧ Wd (f a)) ∧
  ∀ N x H', List.Perm N (L.map fun e => (e.1, Ty.ren f e.2)) → sortedS (Lib.names N) = true → Same H H' → IsL C D H' N (.ref x) → Q (.ref x) H'
section
variable {P : Program} {w : World} {K : PySem.W.Frag} {mg : Str → Option Value} {base : Heap} {C_Type C_Library C_InvalidLibrary : Addr}
theorem ok__are_words (T : Txt K mg C_Type C_Library) (c_is_word : CalN P w K mg base "is_word" 1 ["value"] (sp_is_word K)) {f : Addr} {fd : FuncData} (F : Fun K "_are_words" "_are_words" s__are_words f fd) : FnOk P w K mg base CX0 2 f fd ["names", "asked"] (sp__are_words K) := by
  have nd := sc__are_words.nd
  refine F.ok sc__are_words (fun vs H Q E h => ?_) (fun cdv A outer s H vs Q E hr h => ?_)
  · obtain ⟨d, p, ws, ys, rfl, _⟩ := h
    rfl
  · obtain ⟨d, p, ws, ys, rfl, hd, hp, hn, hy, hw, q⟩ := h
    refine ⟨_, (pss_cons (ps_if (PW.pt (pw_or (pt_not (pt_val (pe_callB call_isi (by rfl) T.b_isinstance (by decide +kernel) (pa_cons (pv 0) (pa_cons (pe_bltn (v := .ty "dict") (u := .type "dict") (by rfl) T.b_dict (by decide +kernel) rfl) pa_nil))))) (pw_or1 (pt_cmpR op_ne (pe_callB call_lenD (by rfl) T.b_len (by decide +kernel) (pa_cons (pv 0) pa_nil)) (pe_callB call_len (by rfl) T.b_len (by decide +kernel) (pa_cons (pv 1) pa_nil)) (nomark _))))) (pss_one (ps_ret pe_bl)) pss_nil)
      (pss_one (ps_ret (pe_callB (cr_all rfl) (by rfl) T.b_all (by decide +kernel) (pa_cons (pe_lcD (own := [("word", 2)]) (by rfl) nd (pi_tup (pv 1)) (blkOk_by (own := [("word", 2)]) (N := ["names", "asked", "word"]) (sc := (defScope s__are_words)) (by decide +kernel)) (fun _ _ _ _ _ => pg_name (i := 2) nd rfl (Or.inl rfl)) (fun _ _ _ _ _ => pts_nil) (fun _ _ _ _ _ => (pe_and (pe_cmp (pc_din (by first | exact Nat.lt_of_le_of_lt (Nat.add_le_add_left (by decide : 1 ≤ 64) _) hr.units | exact Nat.lt_of_le_of_lt (Nat.add_le_add_left (by decide : 4 ≤ 64) _) hr.units | exact Nat.lt_of_le_of_lt (Nat.add_le_add_left (by decide : 7 ≤ 64) _) hr.units) (pv 2) (pv 0)) (by rfl)) (pe_one (pe_callN c_is_word (hr.mono (by first | decide | omega)) rfl (pa_cons (pe_dget (by first | exact Nat.lt_of_le_of_lt (Nat.add_le_add_left (by decide : 1 ≤ 64) _) hr.units | exact Nat.lt_of_le_of_lt (Nat.add_le_add_left (by decide : 4 ≤ 64) _) hr.units | exact Nat.lt_of_le_of_lt (Nat.add_le_add_left (by decide : 7 ≤ 64) _) hr.units) (pv 0) (pv 2) (fun _ _ => rfl)) pa_nil)))))) pa_nil))))), ?_⟩
    refine ⟨.ref d, rfl, .ref d, .ty "dict", .type "dict", .type "dict", true, rfl, .ty _, .base (.dK hd), kit_ty (by decide +kernel), true, rfl, iteF ?_⟩
    refine ⟨.ref d, rfl, d, _, rfl, hd, .ref p, rfl, .ref p, _, rfl, .inr ⟨_, SqT.of hp, rfl⟩, rfl, false, congrArg V.bl (by rw [List.length_map, List.length_map, hn]; simp), iteF ?_⟩
    refine nx_go ?_
    dsimp only
    refine ⟨.ref p, rfl, p, rfl, ⟨_, SqT.of hp⟩, fun D hD => lc_tup (xs := ys.map V.str) (fun i H' => H' D = some (.lst ((List.replicate i true).map V.bl)) ∧ Same H H') ?_ (fun i H1 _ hP => SqT.of (hP.2 _ _ hp)) (fun i x H1 hx hP => ?_) (fun H1 hP => ?_)⟩
    · exact ⟨upd_same, (Same.refl H).mut hD⟩
    · obtain ⟨hD1, s1⟩ := hP
      have io := lt_of_get hx
      rw [List.length_map] at io
      rw [List.getElem?_map, List.getElem?_eq_getElem io] at hx
      cases hx
      obtain ⟨z, hz, wz⟩ := hw _ (List.getElem_mem io)
      have g : DGet H1 d (.str ys[i]) (some (.str z)) := IsN.get (s1 _ _ hd) hz
      have zl := isW_len wz.1
      refine ⟨rfl, tyes ?_⟩
      refine ⟨.str ys[i], rfl, .ref d, rfl, d, _, rfl, g, true, rfl, iteT ?_⟩
      refine ⟨.ref d, rfl, .str ys[i], rfl, d, .str z, rfl, g, .str z, rfl, .inl ⟨z, rfl, by omega, wz.2⟩, fun H2 s2 => ?_⟩
      refine ⟨_, s2 _ _ hD1, lt_line' ?_, ?_, (s1.trans s2).mut hD⟩
      · rw [List.length_map, List.length_replicate]
        omega
      · rw [upd_same, List.replicate_succ', List.map_append, wz.1]
        rfl
    · obtain ⟨hD1, s1⟩ := hP
      refine ⟨D, _, rfl, SqL.of hD1, ?_⟩
      have e : (List.replicate (ys.map V.str).length true).all id = true := List.all_eq_true.mpr fun b hb => by
        rw [List.eq_of_mem_replicate hb]
        rfl
      rw [e]
      exact q _ s1
theorem ok_Library_renamed (T : Txt K mg C_Type C_Library) (i_Library___init__ : MakC P w K mg base C_Library 3 ["self", "parts"] (sp_Library___init__ K C_Type C_Library)) (c__are_words : CalN P w K mg base "_are_words" 2 ["names", "asked"] (sp__are_words K)) {f : Addr} {fd : FuncData} (F : Fun K "renamed" "Library.renamed" s_Library_renamed f fd) : FnOk P w K mg base CX0 5 f fd ["self", "names"] (sp_Library_renamed K C_Type C_Library) := by
  have nd := sc_Library_renamed.nd
  refine F.ok sc_Library_renamed (fun vs H Q E h => ?_) (fun cdv A outer s H vs Q E hr h => ?_)
  · obtain ⟨v, d, ws, f, L, rfl, _⟩ := h
    rfl
  · obtain ⟨v, d, ws, g, L, rfl, hL, fL, hd, hn, dw, hw, inj, q⟩ := h
    refine ⟨_, (pss_cons (ps_if (PW.pt (pw_or (pt_not (pt_val (pe_callN c__are_words (hr.mono (by first | decide | omega)) rfl (pa_cons (pv 1) (pa_cons (pe_fld (pv 0) rfl) pa_nil))))) (pw_or1 (pt_cmpR op_lt (pe_callB call_lenS (by rfl) T.b_len (by decide +kernel) (pa_cons (pe_callTy (cr_setE rfl) (by rfl) T.b_set (by decide +kernel) (pa_cons (pe_listVals rfl (pv 1) (by rfl) T.b_list (by decide +kernel)) pa_nil)) pa_nil)) (pe_callB call_lenD (by rfl) T.b_len (by decide +kernel) (pa_cons (pv 1) pa_nil)) (nomark _))))) (pss_one ps_never) pss_nil)
      (pss_one (ps_ret (pe_makeC i_Library___init__ (hr.mono (by first | decide | omega)) rfl T.c_Library (pa_cons (pe_dcD (own := [("name", 2)]) (by rfl) nd (pi_tup (pe_fld (pv 0) rfl)) (blkOk_by (own := [("name", 2)]) (N := ["self", "names", "name"]) (sc := (defScope s_Library_renamed)) (by decide +kernel)) (fun _ _ _ _ _ => pg_name (i := 2) nd rfl (Or.inl rfl)) (fun _ _ _ _ _ => pts_nil) (fun _ _ _ _ _ => (pe_dget (by first | exact Nat.lt_of_le_of_lt (Nat.add_le_add_left (by decide : 1 ≤ 64) _) hr.units | exact Nat.lt_of_le_of_lt (Nat.add_le_add_left (by decide : 4 ≤ 64) _) hr.units | exact Nat.lt_of_le_of_lt (Nat.add_le_add_left (by decide : 7 ≤ 64) _) hr.units) (pv 1) (pv 2) (fun _ _ => rfl))) (fun _ _ _ _ _ => (pe_dget (by first | exact Nat.lt_of_le_of_lt (Nat.add_le_add_left (by decide : 1 ≤ 64) _) hr.units | exact Nat.lt_of_le_of_lt (Nat.add_le_add_left (by decide : 4 ≤ 64) _) hr.units | exact Nat.lt_of_le_of_lt (Nat.add_le_add_left (by decide : 7 ≤ 64) _) hr.units) (pe_fld (pv 0) rfl) (pv 2) (fun _ _ => rfl)))) pa_nil))))), ?_⟩
    obtain ⟨x, dx, dp, p0, q', kvs, rfl, hx, hdp, hpp, hnn, hq⟩ := id hL
    have few := fL.few
    have nl : L.names.length = L.length := List.length_map ..
    refine ⟨.ref d, rfl, .ref x, rfl, x, C_Library, dx, _, .ref p0, rfl, hx, T.k_Library, T.x_Library.n_names, rfl, d, p0, ws, L.names, rfl, hd, hnn, by omega, by omega, fun y hy => ⟨g y, hw y hy⟩, fun H1 s1 => ⟨true, rfl, iteF ?_⟩⟩
    have ev : (ws.map fun p => ((Sum.inr p.1 : Key), V.str p.2)).map (·.2) = (ws.map (·.2)).map V.str := by rw [List.map_map, List.map_map]; rfl
    refine ⟨.ref d, rfl, d, _, rfl, s1 _ _ hd, fun p1 h1 => ?_⟩
    rw [ev]
    refine ⟨p1, ws.map (·.2), rfl, .inr (SqL.of upd_same), by rw [List.length_map]; omega, fun a L' ha ll mem => ?_⟩
    have s2 := ((Same.refl H1).new (o := .lst ((ws.map (·.2)).map V.str)) h1).new (o := SetSO P w a L') ha
    rw [List.length_map] at ll
    refine ⟨a, L', rfl, upd_same, by omega, fun ndL => ?_⟩
    have le : L'.length = ws.length := by
      have := ((List.perm_ext_iff_of_nodup ndL dw).mpr mem).length_eq
      rw [List.length_map] at this
      exact this
    refine ⟨.ref d, rfl, d, _, rfl, s2 _ _ (s1 _ _ hd), _, _, rfl, rfl, false, congrArg V.bl (decide_eq_false (by rw [List.length_map]; omega)), iteF ?_⟩
    refine nx_go ?_
    dsimp only
    have s12 := s1.trans s2
    show tRet _ _ _ (upd (upd H1 p1 (.lst ((ws.map (·.2)).map V.str))) a (SetSO P w a L'))
    generalize upd (upd H1 p1 (.lst ((ws.map (·.2)).map V.str))) a (SetSO P w a L') = H2 at s2 s12 ⊢
    clear s1 s2 h1 ha
    refine ⟨.ref x, rfl, x, C_Library, dx, _, .ref p0, rfl, s12 _ _ hx, T.k_Library, T.x_Library.n_names, rfl, p0, rfl, ⟨_, SqT.of (s12 _ _ hnn)⟩, fun D hD => ?_⟩
    refine dc_tup (xs := L.names.map V.str) (fun i H' => ∃ ks, H' D = some (.dK ks) ∧ IsP C_Type H' (Lib.renK g (L.take i)) ks ∧ Same H2 H') ?_ (fun i H' _ hP => ?_) (fun i z H' hz hP => ?_) (fun H' hP => ?_)
    · exact ⟨[], upd_same, by rw [List.take_zero]; rfl, (Same.refl _).mut hD⟩
    · obtain ⟨_, _, _, s4⟩ := hP
      exact SqT.of (s4 _ _ (s12 _ _ hnn))
    · obtain ⟨ks, hD1, hp1, s4⟩ := hP
      obtain ⟨e, he, rfl⟩ := Lib.names_at hz
      have io := lt_of_get he
      have em := List.mem_of_getElem? he
      have s14 := s12.trans s4
      obtain ⟨v, evv, ht⟩ := (hpp.same s14).val_of fL.nodup em
      have gp : DGet H' dp (.str e.1) (some v) := .inl ⟨kvs, Sum.inr e.1, .inl (s14 _ _ hdp), rfl, evv.symm⟩
      have inL : e.1 ∈ L.names := List.mem_map_of_mem em
      have gd : DGet H' d (.str e.1) (some (.str (g e.1))) := IsN.get (s14 _ _ hd) (hw _ inL).1
      have kl := hp1.len
      rw [Lib.renK, List.length_map, List.length_take] at kl
      refine ⟨rfl, tyes ?_⟩
      refine ⟨.ref d, rfl, .str e.1, rfl, d, _, rfl, gd, .ref x, rfl, x, C_Library, dx, _, .ref dp, rfl, s14 _ _ hx, T.k_Library, T.x_Library.n_parts, rfl, .str e.1, rfl, dp, v, rfl, gp, _, Sum.inr (g e.1), rfl, hD1, lt_line' (by omega), ks ++ [(Sum.inr (g e.1), v)], ?_, ?_, s4.mut hD⟩
      · rw [upd_same, putK_new _ (hp1.none_of fun k => by
          rw [Lib.renK_names] at k
          obtain ⟨n, h1, h2⟩ := List.mem_map.mp k
          have nL : n ∈ L.names := by
            obtain ⟨e', h3, rfl⟩ := List.mem_map.mp h1
            exact List.mem_map_of_mem (List.mem_of_mem_take h3)
          have := inj n nL e.1 inL h2
          rw [this] at h1
          exact Lib.take_out fL.nodup he h1)]
      · have hh := held_dk (o := .dK (putK ks (Sum.inr (g e.1)) v)) hD1
        rw [take_next he, Lib.renK, List.map_append]
        exact (hp1.held hh).app (e := (g e.1, e.2)) (IsT.held hh _ _ ht)
    · obtain ⟨ks, hD1, hp1, s4⟩ := hP
      rw [List.length_map, Lib.names, List.length_map, List.take_length] at hp1
      exact make_lib hD1 hp1 (Lib.renK_fine fL (fun n hn => (hw n hn).2) inj) fun N x' H3 pm so s5 hN => q N x' H3 pm so ((s12.trans s4).trans s5) hN
theorem ok_Library_with_atoms (T : Txt K mg C_Type C_Library) (i_Library___init__ : MakC P w K mg base C_Library 3 ["self", "parts"] (sp_Library___init__ K C_Type C_Library)) (c__are_words : CalN P w K mg base "_are_words" 2 ["names", "asked"] (sp__are_words K)) (m_Type_renamed : MetC P w K mg base C_Type "renamed" 12 ["self", "names"] (sp_Type_renamed K C_Type)) (p_Library_atoms : PrpC P w K mg base C_Library "atoms" 3 ["self"] (sp_Library_atoms K C_Type C_Library)) (p_Type_atoms : PrpC P w K mg base C_Type "atoms" 1 ["self"] (sp_Type_atoms K C_Type)) {f : Addr} {fd : FuncData} (F : Fun K "with_atoms" "Library.with_atoms" s_Library_with_atoms f fd) : FnOk P w K mg base CX0 13 f fd ["self", "names"] (sp_Library_with_atoms K C_Type C_Library) := by
  have nd := sc_Library_with_atoms.nd
  refine F.ok sc_Library_with_atoms (fun vs H Q E h => ?_) (fun cdv A outer s H vs Q E hr h => ?_)
  · obtain ⟨v, d, ws, f, L, rfl, _⟩ := h
    rfl
  · obtain ⟨v, d, ws, g, L, rfl, hL, fL, sm, hd, hn, hw, q⟩ := h
    refine ⟨_, (pss_cons (ps_if (pt_not (pt_val (pe_callN c__are_words (hr.mono (by first | decide | omega)) rfl (pa_cons (pv 1) (pa_cons (pe_propC p_Library_atoms T.k_Library (hr.mono (by first | decide | omega)) (pv 0)) pa_nil))))) (pss_one ps_never) pss_nil)
      (pss_cons (ps_set (i := 2) nd rfl (.inl rfl) pe_dnewK)
      (pss_cons (ps_for PassesOwn.never rfl (pi_tup (pe_fld (pv 0) rfl)) (pg_name (i := 3) nd rfl (.inl rfl)) (pss_cons (ps_set (i := 4) nd rfl (.inl rfl) (pe_dget (by first | exact Nat.lt_of_le_of_lt (Nat.add_le_add_left (by decide : 1 ≤ 64) _) hr.units | exact Nat.lt_of_le_of_lt (Nat.add_le_add_left (by decide : 4 ≤ 64) _) hr.units | exact Nat.lt_of_le_of_lt (Nat.add_le_add_left (by decide : 7 ≤ 64) _) hr.units) (pe_fld (pv 0) rfl) (pv 3) (fun _ _ => rfl)))
      (pss_one (ps_dput (by first | exact Nat.lt_of_le_of_lt (Nat.add_le_add_left (by decide : 1 ≤ 64) _) hr.units | exact Nat.lt_of_le_of_lt (Nat.add_le_add_left (by decide : 4 ≤ 64) _) hr.units | exact Nat.lt_of_le_of_lt (Nat.add_le_add_left (by decide : 7 ≤ 64) _) hr.units) (pv 2) (pv 3) (pe_methC m_Type_renamed T.k_Type (hr.mono (by first | decide | omega)) (pv 4) (pa_cons (pe_dcD (own := [("word", 5)]) (by rfl) nd (pi_tup (pe_propC p_Type_atoms T.k_Type (hr.mono (by first | decide | omega)) (pv 4))) (blkOk_by (own := [("word", 5)]) (N := ["self", "names", "parts", "name", "wanted", "word"]) (sc := (defScope s_Library_with_atoms)) (by decide +kernel)) (fun _ _ _ _ _ => pg_name (i := 5) nd rfl (Or.inl rfl)) (fun _ _ _ _ _ => pts_nil) (fun _ _ _ _ _ => (pv 5)) (fun _ _ _ _ _ => (pe_dget (by first | exact Nat.lt_of_le_of_lt (Nat.add_le_add_left (by decide : 1 ≤ 64) _) hr.units | exact Nat.lt_of_le_of_lt (Nat.add_le_add_left (by decide : 4 ≤ 64) _) hr.units | exact Nat.lt_of_le_of_lt (Nat.add_le_add_left (by decide : 7 ≤ 64) _) hr.units) (pv 1) (pv 5) (fun _ _ => rfl)))) pa_nil)) (by rfl)))))
      (pss_one (ps_ret (pe_makeC i_Library___init__ (hr.mono (by first | decide | omega)) rfl T.c_Library (pa_cons (pv 2) pa_nil))))))), ?_⟩
    obtain ⟨x, dx, dp, p0, q', kvs, rfl, hx, hdp, hpp, hnn, hq⟩ := id hL
    have few := fL.few
    refine ⟨.ref d, rfl, .ref x, rfl, x, dx, _, rfl, hx, .ref x, L, rfl, hL, fL, sm, fun p1 ys H1 s1 hp1 nd1 so1 mem1 le1 => ?_⟩
    refine ⟨d, p1, ws, ys, rfl, s1 _ _ hd, hp1, hn ys nd1 mem1, by omega, fun y hy => ?_, fun H2 s2 => ⟨true, rfl, iteF ?_⟩⟩
    · obtain ⟨e, he, ha⟩ := (mem1 y).mp hy
      exact ⟨g y, hw e he y ha⟩
    refine nx_go ?_
    dsimp only
    have s12 := s1.trans s2
    refine fun D hD => ?_
    refine asg_go2 ?_
    dsimp only
    have sD : Same H (upd H2 D (.dK [])) := s12.new hD
    have nD : H D = none := s12.free hD
    have hD0 : upd H2 D (.dK []) D = some (.dK []) := upd_same
    generalize upd H2 D (.dK []) = H3 at sD hD0
    clear s1 s2 hp1 s12 hD
    refine ⟨.ref x, rfl, x, C_Library, dx, _, .ref p0, rfl, sD _ _ hx, T.k_Library, T.x_Library.n_names, rfl, p0, rfl, ⟨_, SqT.of (sD _ _ hnn)⟩, ?_⟩
    refine for_tup (xs := L.names.map V.str) (fun i σ' H' => ∃ s3 s4 ks, σ' = [some (.ref x), some (.ref d), some (.ref D), s3, s4, none] ∧ H' D = some (.dK ks) ∧ IsP C_Type H' ((L.take i).map fun e => (e.1, Ty.ren g e.2)) ks ∧ Same H H') ?_ (fun i σ' H' _ hP => ?_) (fun i z σ' H' hz hP => ?_) (fun σ' H' hP => ?_)
    · exact ⟨_, _, [], rfl, hD0, by rw [List.take_zero]; rfl, sD⟩
    · obtain ⟨_, _, _, _, _, _, s4⟩ := hP
      exact SqT.of (s4 _ _ hnn)
    · obtain ⟨s3, s4, ks, rfl, hD1, hp1, sm1⟩ := hP
      obtain ⟨e, he, rfl⟩ := Lib.names_at hz
      have io := lt_of_get he
      have em := List.mem_of_getElem? he
      obtain ⟨v, evv, ht⟩ := (hpp.same sm1).val_of fL.nodup em
      have gp : DGet H' dp (.str e.1) (some v) := .inl ⟨kvs, Sum.inr e.1, .inl (sm1 _ _ hdp), rfl, evv.symm⟩
      have kl := hp1.len
      rw [List.length_map, List.length_take] at kl
      refine ⟨.ref x, rfl, x, C_Library, dx, _, .ref dp, rfl, sm1 _ _ hx, T.k_Library, T.x_Library.n_parts, rfl, .str e.1, rfl, dp, v, rfl, gp, ?_⟩
      refine asg_go2 ?_
      dsimp only
      have fs := fL.fits _ em
      have lo5 : e.2.order < 6 := Nat.lt_of_le_of_lt fs.low (by decide)
      obtain ⟨b, db, _, _, _, rfl, hb, _⟩ := ht.at
      refine ⟨.ref b, rfl, b, db, _, rfl, hb, rfl, ?_⟩
      refine ⟨.ref b, rfl, b, db, _, rfl, hb, .ref b, e.2, rfl, ht, fs, fun p2 zs H4 s5 hp2 ja => ?_⟩
      refine ⟨p2, rfl, ⟨_, SqT.of hp2⟩, fun D2 hD2 => ?_⟩
      have s15 := sm1.trans s5
      refine dc_tup (xs := zs.map V.str) (fun i H' => IsN H' D2 ((zs.take i).map fun z => (z, g z)) ∧ Same H4 H') ?_ (fun i H' _ hP => SqT.of (hP.2 _ _ hp2)) (fun j y H5 hy hP => ?_) (fun H5 hP => ?_)
      · exact ⟨by rw [List.take_zero]; exact upd_same, (Same.refl H4).mut hD2⟩
      · obtain ⟨hN, s6⟩ := hP
        have jo := lt_of_get hy
        rw [List.length_map] at jo
        rw [List.getElem?_map, List.getElem?_eq_getElem jo] at hy
        cases hy
        have zt := (ja.2.2.1 _).mp (List.getElem_mem jo)
        have gg : DGet H5 d (.str zs[j]) (some (.str (g zs[j]))) := IsN.get (s6 _ _ (s15 _ _ hd)) (hw _ em _ zt).1
        refine ⟨rfl, tyes ?_⟩
        refine ⟨.str zs[j], rfl, .ref d, rfl, .str zs[j], rfl, d, .str (g zs[j]), rfl, gg, _, Sum.inr zs[j], rfl, hN, lt_line' ?_, ?_, s6.mut hD2⟩
        · have := ja.2.2.2
          have := fs.few
          rw [List.length_map, List.length_map, List.length_take]
          omega
        · have out : zs[j] ∉ zs.take j := out_take ja.1 jo
          show upd H5 D2 _ D2 = _
          rw [upd_same, putK_new _ (by rw [valV_look, look_out _ out]; rfl), take_next (List.getElem?_eq_getElem jo), List.map_append, List.map_append]
          rfl
      · obtain ⟨hN, s6⟩ := hP
        rw [List.length_map, List.take_length] at hN
        have s56 := s5.trans s6
        refine ⟨.ref b, e.2, D2, _, g, rfl, IsT.same s56 _ _ ht, hN, fun ys' iy => ?_, fun a ha => ⟨look_in zs ((ja.2.2.1 a).mpr ha), (hw _ em _ ha).2⟩, lo5, fs, fun r H6 s7 hr' => ?_⟩
        · rw [List.length_map]
          exact ja.len iy
        · have s57 := s56.trans s7
          have hD6 := s57 _ _ hD1
          refine ⟨.ref D, rfl, .str e.1, rfl, D, _, rfl, .k (k := Sum.inr e.1) hD6 (lt_line' (by omega)), ?_⟩
          rw [putK_new _ (hp1.none_of fun k => by
            obtain ⟨e', h1, h2⟩ := List.mem_map.mp k
            obtain ⟨e'', h3, rfl⟩ := List.mem_map.mp h1
            exact Lib.take_out fL.nodup he (by rw [← h2]; exact (show e''.1 ∈ Lib.names (L.take i) from List.mem_map_of_mem h3)))]
          have hh := held_dk (o := .dK (ks ++ [(Sum.inr e.1, .ref r)])) hD6
          refine ⟨_, _, _, rfl, upd_same, ?_, (sm1.trans s57).mut nD⟩
          rw [take_next he, List.map_append]
          exact ((hp1.same s57).held hh).app (e := (e.1, Ty.ren g e.2)) (IsT.held hh _ _ hr')
    · obtain ⟨s3, s4, ks, rfl, hD1, hp1, sm1⟩ := hP
      rw [List.length_map, Lib.names, List.length_map, List.take_length] at hp1
      have fN : Lib.Fine (L.map fun e => (e.1, Ty.ren g e.2)) := by
        refine ⟨fun e he => ?_, fun e he => ?_, by rw [List.length_map]; exact few, ?_⟩
        · obtain ⟨y, hy, rfl⟩ := List.mem_map.mp he
          exact fL.words y hy
        · obtain ⟨y, hy, rfl⟩ := List.mem_map.mp he
          exact fits_ren (fL.fits y hy) fun a ha => (hw y hy a ha).2
        · rw [Lib.names, List.map_map]
          exact fL.nodup
      exact ⟨.ref D, rfl, make_lib hD1 hp1 fN fun N x' H7 pm so s5 hN => q N x' H7 pm so (sm1.trans s5) hN⟩
theorem ok_Library_with_partX (T : Txt K mg C_Type C_Library) (i_Library___init__X : MakX P w K mg base C_Library 3 ["self", "parts"] (sp_Library_initX K C_Type C_Library C_InvalidLibrary)) (p_Library_parts : PrpC P w K mg base C_Library "parts" 1 ["self"] (sp_Library_parts K C_Type C_Library)) (i_Library___init__ : MakC P w K mg base C_Library 3 ["self", "parts"] (sp_Library___init__ K C_Type C_Library)) (c_is_word : CalN P w K mg base "is_word" 1 ["value"] (sp_is_word K)) {f : Addr} {fd : FuncData} (F : Fun K "with_part" "Library.with_part" s_Library_with_part f fd) : FnOk P w K mg base (L2.CX P w) 5 f fd ["self", "name", "wanted"] (sp_Library_with_partX K C_Type C_Library C_InvalidLibrary) := by
  have nd := sc_Library_with_part.nd
  refine F.okX sc_Library_with_part (fun vs H Q E h => ?_) (fun cdv A outer s H vs Q E hr h => ?_)
  · obtain ⟨v, n, u, t, L, rfl, _⟩ := h
    rfl
  · obtain ⟨v, n, u, t, L, rfl, hl, ht, fL, wn, ft, q, qE⟩ := h
    refine ⟨_, (pss_cons (ps_if (pt_not (pt_val (pe_callN c_is_word (hr.mono (by first | decide | omega)) rfl (pa_cons (pv 1) pa_nil)))) (pss_one ps_never) pss_nil)
      (pss_cons (ps_if (pt_not (pt_val (pe_callB call_isi (by rfl) T.b_isinstance (by decide +kernel) (pa_cons (pv 2) (pa_cons (pe_glob (v := .ref C_Type) rfl T.c_Type rfl) pa_nil))))) (pss_one ps_never) pss_nil)
      (pss_cons (ps_set (i := 3) nd rfl (.inl rfl) (pe_propC p_Library_parts T.k_Library (hr.mono (by first | decide | omega)) (pv 0)))
      (pss_cons (ps_dput (by first | exact Nat.lt_of_le_of_lt (Nat.add_le_add_left (by decide : 1 ≤ 64) _) hr.units | exact Nat.lt_of_le_of_lt (Nat.add_le_add_left (by decide : 4 ≤ 64) _) hr.units | exact Nat.lt_of_le_of_lt (Nat.add_le_add_left (by decide : 7 ≤ 64) _) hr.units) (pv 3) (pv 1) (pv 2) (by rfl))
      (pss_one (ps_ret (pe_makeX i_Library___init__X (hr.mono (by first | decide | omega)) rfl T.c_Library (passes_call (takes_of rfl rfl rfl rfl) fun _ _ _ _ h => h) (pa_cons (pv 3) pa_nil)))))))), ?_⟩
    have nl : 1 ≤ n.length ∧ n.length ≤ 8 := isW_len wn.1
    have few := fL.few
    refine ⟨.str n, rfl, .str n, rfl, .inl ⟨n, rfl, by omega, wn.2⟩, fun H1 s1 => ⟨true, congrArg V.bl wn.1, iteF ?_⟩⟩
    refine nx_go ?_
    dsimp only
    have ht1 := IsT.same s1 _ _ ht
    obtain ⟨b, db, _, _, _, rfl, hb, _⟩ := ht1.at
    refine ⟨.ref b, rfl, .ref b, .ref C_Type, .ref C_Type, .ref C_Type, true, rfl, .own _, ty_of_ins T.k_Type T.x_Type hb, kit_self _, true, rfl, iteF ?_⟩
    refine nx_go ?_
    dsimp only
    have hl1 := hl.same s1
    have hl2 := hl1
    obtain ⟨x, dx, d, p, q', kvs, rfl, hx, _⟩ := hl2
    refine ⟨.ref x, rfl, x, dx, _, rfl, hx, .ref x, L, rfl, hl1, fL, fun D ks H2 s2 nD hD hp => ?_⟩
    refine asg_go2 ?_
    dsimp only
    have kl := hp.len
    have ht2 := IsT.same s2 _ _ ht1
    refine ⟨.ref b, rfl, .ref D, rfl, .str n, rfl, D, _, rfl, .k (k := Sum.inr n) hD (lt_line' (by omega)), ?_⟩
    have hh := held_dk (o := .dK (putK ks (Sum.inr n) (.ref b))) hD
    refine nx_go ?_
    dsimp only
    have sF := s1.trans (s2.mut (o := .dK (putK ks (Sum.inr n) (.ref b))) nD)
    have pl := Lib.putL_lenW L (n, t)
    have hpF : IsP C_Type _ (Lib.putL L (n, t)) (putK ks (Sum.inr n) (.ref b)) := IsP.put (e := (n, t)) (IsT.held hh _ _ ht2) (hp.held hh)
    refine ⟨.ref D, rfl, make_libX upd_same hpF (fun e he => ?_) (fun e he => ?_) (Lib.putL_nodup fL.nodup _) (by omega) (fun l8 N y H' pm so s5 hN => q l8 N y H' pm so (sF.trans s5) hN) (fun l8 H' s5 => qE l8 H' (sF.trans s5))⟩
    · rcases Lib.mem_putL.mp he with rfl | ⟨h, _⟩
      · exact wn
      · exact fL.words e h
    · rcases Lib.mem_putL.mp he with rfl | ⟨h, _⟩
      · exact ft
      · exact fL.fits e h
end


end My
namespace My
open PySem PySem.Spec PyProof.Rows L2 TL
set_option pp.maxSteps 400
set_option pp.deepTerms false
/-! ### the dict of names -/
theorem look_none : ∀ {ws : List (Str × Str)} {x : Str}, x ∉ ws.map (·.1) → look ws x = none
  | [], _, _ => rfl
  | (k, v) :: r, x, h => by
    rw [look, List.find?_cons_of_neg (by simpa using fun e : k = x => h (e ▸ List.mem_cons_self ..))]
    exact look_none fun z => h (List.mem_cons_of_mem _ z)
def kvOf (p : Str × Str) : Key × V := (Sum.inr p.1, V.str p.2)
theorem merge_new : ∀ (ws acc : List (Str × Str)), ((acc ++ ws).map (·.1)).Nodup → mergeK (acc.map kvOf) (ws.map kvOf) = (acc ++ ws).map kvOf
  | [], acc, _ => by
    rw [List.append_nil]
    rfl
  | p :: r, acc, nd => by
    have out : p.1 ∉ acc.map (·.1) := fun k => by
      rw [List.map_append, List.nodup_append] at nd
      exact nd.2.2 _ k p.1 (by rw [List.map_cons]; exact List.mem_cons_self ..) rfl
    have e : putK (acc.map kvOf) (kvOf p).1 (kvOf p).2 = (acc ++ [p]).map kvOf := by
      rw [putK_new _ (by
        have g := valV_look p.1 acc
        rw [look_none out] at g
        exact g), List.map_append]
      rfl
    show mergeK (putK (acc.map kvOf) (kvOf p).1 (kvOf p).2) (r.map kvOf) = _
    rw [e, merge_new r (acc ++ [p]) (by rw [List.append_assoc]; exact nd), List.append_assoc]
    rfl
theorem look_zip : ∀ {ys vs : List Str} {i : Nat} {y v : Str}, ys.Nodup → ys[i]? = some y → vs[i]? = some v → look (ys.zip vs) y = some v
  | [], _, _, _, _, _, h, _ => by simp at h
  | _ :: _, [], _, _, _, _, _, h => by simp at h
  | a :: r, b :: s, i, y, v, nd, hy, hv => by
    rw [List.zip_cons_cons]
    cases i with
    | zero =>
      cases hy
      cases hv
      rw [look, List.find?_cons_of_pos (by simp)]
      rfl
    | succ i =>
      have ne : ¬ a = y := fun e => (List.nodup_cons.mp nd).1 (e ▸ List.mem_of_getElem? (l := r) (i := i) hy)
      rw [look, List.find?_cons_of_neg (by simpa using ne)]
      exact look_zip (List.nodup_cons.mp nd).2 hy hv
theorem mem_texts : ∀ {ps : List V} {m : List Str}, (∀ p ∈ ps, p ∈ m.map V.str) → ∃ vs : List Str, ps = vs.map V.str ∧ ∀ v ∈ vs, v ∈ m
  | [], _, _ => ⟨[], rfl, fun _ h => (by cases h)⟩
  | p :: r, m, h => by
    obtain ⟨v, hv, e⟩ := mem_strs (h p (List.mem_cons_self ..))
    obtain ⟨vs, e2, h2⟩ := mem_texts fun q hq => h q (List.mem_cons_of_mem _ hq)
    refine ⟨v :: vs, by rw [e, e2]; rfl, fun u hu => ?_⟩
    rcases List.mem_cons.mp hu with rfl | hu
    · exact hv
    · exact h2 u hu
theorem paired_zip {K : PySem.W.Frag} {H : Hp} : ∀ {pr : List Addr} {ys vs : List Str}, pr.length = ys.length → vs.length = ys.length → (∀ (i : Nat) (p : Addr) (x y : V), pr[i]? = some p → (ys.map V.str)[i]? = some x → (vs.map V.str)[i]? = some y → H p = some (.tup [x, y])) →
    Paired (fun p kv => SqT K H p [kV kv.1, kv.2]) pr ((ys.zip vs).map kvOf)
  | [], [], [], _, _, _ => .nil
  | p :: pr, y :: ys, v :: vs, h1, h2, h => by
    rw [List.zip_cons_cons, List.map_cons]
    exact .cons (SqT.of (h 0 p (.str y) (.str v) rfl rfl rfl)) (paired_zip (Nat.succ.inj h1) (Nat.succ.inj h2) fun i q a b e1 e2 e3 => h (i + 1) q a b e1 e2 e3)
  | [], _ :: _, _, h1, _, _ => by cases h1
  | _ :: _, [], _, h1, _, _ => by cases h1
  | _, _ :: _, [], _, h2, _ => by cases h2
  | _, [], _ :: _, _, h2, _ => by cases h2

/-! ### other names of parts -/
def renOf (ns ms : List Str) (n : Str) : Str := (look (ns.zip ms) n).getD Str.empty
theorem renOf_at {ns ms : List Str} (nd : ns.Nodup) {i : Nat} {n m : Str} (h1 : ns[i]? = some n) (h2 : ms[i]? = some m) : look (ns.zip ms) n = some m ∧ renOf ns ms n = m := by
  have e := look_zip nd h1 h2
  exact ⟨e, by rw [renOf, e]; rfl⟩
theorem renOf_in {ns ms : List Str} (nd : ns.Nodup) (l : ms.length = ns.length) {n : Str} (h : n ∈ ns) : look (ns.zip ms) n = some (renOf ns ms n) ∧ renOf ns ms n ∈ ms := by
  obtain ⟨i, hi⟩ := List.getElem?_of_mem h
  have io := lt_of_get hi
  have hm : ms[i]? = some ms[i] := List.getElem?_eq_getElem (by omega)
  obtain ⟨e1, e2⟩ := renOf_at nd hi hm
  exact ⟨by rw [e1, e2], by rw [e2]; exact List.getElem_mem ..⟩
theorem renOf_inj {ns ms : List Str} (nd : ns.Nodup) (nm : ms.Nodup) (l : ms.length = ns.length) {n m : Str} (hn : n ∈ ns) (hm : m ∈ ns) (e : renOf ns ms n = renOf ns ms m) : n = m := by
  obtain ⟨i, hi⟩ := List.getElem?_of_mem hn
  obtain ⟨j, hj⟩ := List.getElem?_of_mem hm
  have io := lt_of_get hi
  have jo := lt_of_get hj
  have h1 : ms[i]? = some ms[i] := List.getElem?_eq_getElem (by omega)
  have h2 : ms[j]? = some ms[j] := List.getElem?_eq_getElem (by omega)
  rw [(renOf_at nd hi h1).2, (renOf_at nd hj h2).2] at e
  have ij : i = j := (List.getElem_inj nm).mp e
  rw [ij] at hi
  exact Option.some.inj (hi.symm.trans hj)
def Lib.ren (f : Str → Str) (L : Lib) : Lib := L.map fun e => (f e.1, e.2)
theorem Lib.ren_names (f : Str → Str) (L : Lib) : (L.ren f).names = L.names.map f := by
  rw [Lib.ren, Lib.names, Lib.names, List.map_map, List.map_map]
  rfl
theorem Lib.ren_small {f : Str → Str} {L : Lib} (s : L.Small) (w : ∀ n ∈ L.names, Wd (f n)) (inj : ∀ n ∈ L.names, ∀ m ∈ L.names, f n = f m → n = m) : (L.ren f).Small := by
  refine ⟨⟨fun e he => ?_, fun e he => ?_, by rw [Lib.ren, List.length_map]; exact s.fine.few, ?_⟩, fun e he => ?_⟩
  · obtain ⟨x, hx, rfl⟩ := List.mem_map.mp he
    exact w _ (List.mem_map_of_mem hx)
  · obtain ⟨x, hx, rfl⟩ := List.mem_map.mp he
    exact s.fine.fits x hx
  · rw [Lib.ren_names]
    exact nodup_map_on inj s.fine.nodup
  · obtain ⟨x, hx, rfl⟩ := List.mem_map.mp he
    exact s.small x hx
theorem Lib.putL_small {L : Lib} (s : L.Small) {e : Str × Ty} (w : Wd e.1) (f : e.2.Fits) (sm : e.2.places.length ≤ 4 ∧ e.2.order ≤ 2) (l : L.length ≤ 7) : (L.putL e).Small := by
  have len : (L.putL e).length ≤ L.length + 1 := by
    unfold Lib.putL
    split
    · rw [List.length_map]
      omega
    · rw [List.length_append]
      exact Nat.le_refl _
  refine ⟨⟨fun x hx => ?_, fun x hx => ?_, by omega, Lib.putL_nodup s.fine.nodup e⟩, fun x hx => ?_⟩
  · rcases Lib.mem_putL.mp hx with rfl | ⟨h, _⟩
    · exact w
    · exact s.fine.words x h
  · rcases Lib.mem_putL.mp hx with rfl | ⟨h, _⟩
    · exact f
    · exact s.fine.fits x h
  · rcases Lib.mem_putL.mp hx with rfl | ⟨h, _⟩
    · exact sm
    · exact s.small x h
theorem Lib.putL_len (L : Lib) (e : Str × Ty) : (L.putL e).length ≤ L.length + 1 := by
  unfold Lib.putL
  split
  · rw [List.length_map]
    omega
  · rw [List.length_append]
    exact Nat.le_refl _
def eightW : List Str := ["f", "g", "p", "q", "r", "s", "t", "u"]
theorem eight_wd : ∀ x ∈ eightW, Wd x := fun x hx => by
  have h : eightW.all wdB = true := by decide +kernel
  exact wdB_wd (List.all_eq_true.mp h x hx)
theorem IsK.mk0 {H : Hp} {a : Str} {p q : Addr} (hp : H p = some (.tup [.ref q, .str a])) (hq : H q = some (.tup [])) : IsK H (.mk [] a) (.ref p) := by
  rw [IsK]
  exact ⟨p, q, [], rfl, hp, hq, by rw [IsKs]⟩

/-! ### a library's order is settled -/
theorem Lib.get_perm {L M : Lib} (pm : M.Perm L) (nd : L.names.Nodup) (n : Str) : M.get n = L.get n := by
  have ndM : M.names.Nodup := (pm.map _).nodup_iff.mpr nd
  cases z : M.get n with
  | some t => exact (Lib.get_mem nd (pm.mem_iff.mp (Lib.get_some z))).symm
  | none =>
    refine (Lib.get_none fun k => ?_).symm
    obtain ⟨t, e⟩ := Lib.get_in (L := M) (n := n) ((pm.map _).mem_iff.mpr k)
    rw [z] at e
    cases e
theorem names_one {L : Lib} {ns : List Str} {M : Lib} (nd : L.names.Nodup) (pm : M.Perm L) (so : sortedS M.names = true) (pn : ns.Perm L.names) (sn : sortedS ns = true) : ns = M.names :=
  sorted_one _ _ sn so (pn.nodup_iff.mpr nd) ((pm.map _).nodup_iff.mpr nd) fun x => pn.mem_iff.trans (pm.map _).mem_iff.symm
theorem lib_one {L M N : Lib} (nd : L.names.Nodup) (pm : M.Perm L) (so : sortedS M.names = true) (pn : N.Perm L) (sn : sortedS N.names = true) : N = M := by
  have e : N.names = M.names := names_one nd pm so (pn.map _) sn
  rw [← Lib.pick_self (L := N) ((pn.map _).nodup_iff.mpr nd), ← Lib.pick_self (L := M) ((pm.map _).nodup_iff.mpr nd), e, Lib.pick, Lib.pick]
  refine List.map_congr_left fun n _ => ?_
  rw [Lib.get_perm pn nd, Lib.get_perm pm nd]

/-! ### what two libraries come to doesn't ask for their order -/
theorem Lib.agree_iff {L M : Lib} (fL : L.Fine) : Lib.agree L M = true ↔ ∀ e ∈ M, e.1 ∈ L.names → ∃ t, (e.1, t) ∈ L ∧ t.text = e.2.text := by
  rw [Lib.agree, List.all_eq_true]
  refine forall_congr' fun e => forall_congr' fun _ => ?_
  rw [← Lib.has_mem fL]
  by_cases c : e.1 ∈ L.names <;> simp [c]
theorem names_perm {L L' : Lib} (p : List.Perm L' L) {n : Str} : n ∈ Lib.names L' ↔ n ∈ L.names := (p.map (fun e : Str × Ty => e.1)).mem_iff
theorem Lib.agree_perm {L M L' M' : Lib} (fL : L.Fine) (p : List.Perm L' L) (q : List.Perm M' M) : Lib.agree L' M' = Lib.agree L M := by
  rw [Bool.eq_iff_iff, Lib.agree_iff (fL.perm p), Lib.agree_iff fL]
  constructor
  · intro h e he hn
    obtain ⟨t, h1, h2⟩ := h e (q.mem_iff.mpr he) ((names_perm p).mpr hn)
    exact ⟨t, p.mem_iff.mp h1, h2⟩
  · intro h e he hn
    obtain ⟨t, h1, h2⟩ := h e (q.mem_iff.mp he) ((names_perm p).mp hn)
    exact ⟨t, p.mem_iff.mpr h1, h2⟩
theorem Lib.united_perm {L M L' M' : Lib} (fL : L.Fine) (fM : M.Fine) (p : List.Perm L' L) (q : List.Perm M' M) : List.Perm (Lib.united L' M') (Lib.united L M) :=
  (List.perm_ext_iff_of_nodup (nodup_of_names (Lib.united_nodup (fL.perm p).nodup (fM.perm q).nodup)) (nodup_of_names (Lib.united_nodup fL.nodup fM.nodup))).mpr fun x => by
    rw [Lib.united, Lib.united, List.mem_append, List.mem_append, List.mem_filter, List.mem_filter, p.mem_iff, q.mem_iff]
    simp only [Bool.not_eq_true', decide_eq_false_iff_not, names_perm q]
theorem Lib.has_perm {M M' : Lib} (fM : M.Fine) (q : List.Perm M' M) (e : Str × Ty) : Lib.has M' e = Lib.has M e := by
  rw [Bool.eq_iff_iff, Lib.has_mem (fM.perm q), Lib.has_mem fM]
  exact exists_congr fun t => and_congr_left fun _ => q.mem_iff
theorem Lib.filter_has_perm {L M L' M' : Lib} (fM : M.Fine) (p : List.Perm L' L) (q : List.Perm M' M) (b : Bool) : List.Perm (L'.filter fun e => Lib.has M' e == b) (L.filter fun e => M.has e == b) := by
  have e : (fun e => Lib.has M' e == b) = fun e => M.has e == b := funext fun e => by rw [Lib.has_perm fM q]
  rw [e]
  exact p.filter _
theorem lib_sorted {N N' U : Lib} (nd : U.names.Nodup) (p : List.Perm N U) (so : sortedS N.names = true) (p' : List.Perm N' U) (so' : sortedS N'.names = true) : N' = N := lib_one nd p so p' so'
theorem neL {K : PySem.W.Frag} {C D : Addr} {H : Hp} {N : Lib} {x y : V} {Q : VK} (f : N.Fine) (a : IsL C D H N x) (b : IsL C D H N y) (q : Q (.bl false) H) : rOwnNe D (sp_Library___eq__ K C D) E0 x y H Q := by
  obtain ⟨xa, dxa, _, _, _, _, rfl, ga, _⟩ := id a
  obtain ⟨xb, dxb, _, _, _, _, rfl, gb, _⟩ := id b
  refine ⟨xa, dxa, _, xb, dxb, _, rfl, rfl, ga, gb, .ref xa, .ref xb, N, rfl, a, f, .inl ⟨N, b, f, true, congrArg V.bl (decide_eq_true rfl), q⟩⟩
theorem eqL {K : PySem.W.Frag} {C D : Addr} {H : Hp} {N : Lib} {x y : V} {Q : VK} (f : N.Fine) (a : IsL C D H N x) (b : IsL C D H N y) (q : Q (.bl true) H) : rOwn D (sp_Library___eq__ K C D) E0 x y H Q := by
  obtain ⟨xa, dxa, _, _, _, _, rfl, ga, _⟩ := id a
  obtain ⟨xb, dxb, _, _, _, _, rfl, gb, _⟩ := id b
  refine ⟨xa, dxa, _, xb, dxb, _, rfl, rfl, ga, gb, .ref xa, .ref xb, N, rfl, a, f, .inl ⟨N, b, f, ?_⟩⟩
  rw [show decide (N.lines = N.lines) = true from decide_eq_true rfl]
  exact q
theorem eqv_text {t u : Ty} (ft : t.Fits) (fu : u.Fits) : PyData.eqv (kd t) (kd u) = decide (t.text = u.text) := by
  rw [Bool.eq_iff_iff, decide_eq_true_iff]
  constructor
  · intro h
    rw [kd_eq _ _ h]
  · intro h
    have e := Ty.text_inj _ t u (Nat.le_refl _) ft.words fu.words h
    rw [e]
    exact PySem.SeqAt.eqv_refl _ (PySem.SeqAt.canLay_of_shaped (kd_shp fu))
theorem val_mem {kvs : List (Key × V)} (nd : (kvs.map (·.1)).Nodup) {p : Key × V} (h : p ∈ kvs) : valV kvs p.1 = some p.2 := by
  obtain ⟨i, hi⟩ := List.getElem?_of_mem h
  exact val_at nd hi
theorem Lib.mem_names_filter {L : Lib} (nd : L.names.Nodup) (p : Str × Ty → Bool) {e : Str × Ty} (he : e ∈ L) : decide (e.1 ∈ Lib.names (L.filter p)) = p e := by
  rw [Bool.eq_iff_iff, decide_eq_true_iff]
  constructor
  · intro h
    obtain ⟨x, hx, ex⟩ := List.mem_map.mp h
    have m := List.mem_filter.mp hx
    have g1 := Lib.get_mem nd m.1
    rw [show x.1 = e.1 from ex, Lib.get_mem nd he] at g1
    have : x = e := Prod.ext ex (Option.some.inj g1).symm
    rw [← this]
    exact m.2
  · intro h
    exact List.mem_map_of_mem (List.mem_filter.mpr ⟨he, h⟩)

/-! ### cuts -/
theorem cut_st {t u : TS} {D : Ends} {σ : L2.St} {H : Hp} (PS' : L2.St → Hp → Prop) (h : ∀ N : L2.St → Hp → Prop, (∀ σ' H', PS' σ' H' → N σ' H') → t { D with nx := N } σ H) (k : ∀ σ' H', PS' σ' H' → u D σ' H') : tSeq t u D σ H := h _ k
theorem cut_e {te : TE} {σ : L2.St} {H : Hp} {Q : VK} (PV : V → Hp → Prop) (h : ∀ Q' : VK, (∀ v H', PV v H' → Q' v H') → te σ H Q') (k : ∀ v H', PV v H' → Q v H') : te σ H Q := h _ k

/-! ### the operators of libraries, used -/
theorem use_and {K : PySem.W.Frag} {C D : Addr} {H : Hp} {L M L1 M1 : Lib} {x y : V} {Q : VK} (fL : L.Fine) (fM : M.Fine) (p : List.Perm L1 L) (q : List.Perm M1 M) (a : IsL C D H L1 x) (b : IsL C D H M1 y)
    (k : ∀ z N H', List.Perm N (L.filter fun e => M.has e) → sortedS (Lib.names N) = true → Same H H' → IsL C D H' N z → Q z H') : rOwn D (sp_Library___and__ K C D) E0 x y H Q := by
  obtain ⟨xa, dxa, _, _, _, _, rfl, ga, _⟩ := id a
  obtain ⟨xb, dxb, _, _, _, _, rfl, gb, _⟩ := id b
  refine ⟨xa, dxa, _, xb, dxb, _, rfl, rfl, ga, gb, .ref xa, .ref xb, L1, M1, rfl, a, b, fL.perm p, fM.perm q, fun N z H' pm so s hl => k _ N H' (pm.trans ?_) so s hl⟩
  have e : (fun e => Lib.has M1 e) = fun e => M.has e := funext fun e => Lib.has_perm fM q e
  rw [e]
  exact p.filter _
theorem use_sub {K : PySem.W.Frag} {C D : Addr} {H : Hp} {L M L1 M1 : Lib} {x y : V} {Q : VK} (fL : L.Fine) (fM : M.Fine) (p : List.Perm L1 L) (q : List.Perm M1 M) (a : IsL C D H L1 x) (b : IsL C D H M1 y)
    (k : ∀ z N H', List.Perm N (L.filter fun e => !M.has e) → sortedS (Lib.names N) = true → Same H H' → IsL C D H' N z → Q z H') : rOwn D (sp_Library___sub__ K C D) E0 x y H Q := by
  obtain ⟨xa, dxa, _, _, _, _, rfl, ga, _⟩ := id a
  obtain ⟨xb, dxb, _, _, _, _, rfl, gb, _⟩ := id b
  refine ⟨xa, dxa, _, xb, dxb, _, rfl, rfl, ga, gb, .ref xa, .ref xb, L1, M1, rfl, a, b, fL.perm p, fM.perm q, fun N z H' pm so s hl => k _ N H' (pm.trans ?_) so s hl⟩
  have e : (fun e => !Lib.has M1 e) = fun e => !M.has e := funext fun e => by rw [Lib.has_perm fM q e]
  rw [e]
  exact p.filter _
theorem use_or {K : PySem.W.Frag} {C D CO CL : Addr} {H : Hp} {A B : Lib} {x y : V} {Q : VK} (fA : A.Fine) (fB : B.Fine) (ag : Lib.agree A B = true) (l8 : (Lib.united A B).length ≤ 8) (a : IsL C D H A x) (b : IsL C D H B y)
    (k : ∀ z N H', List.Perm N (Lib.united A B) → sortedS (Lib.names N) = true → Same H H' → IsL C D H' N z → Q z H') : rOwn D (sp_Library_orX K C D CO CL) E0 x y H Q := by
  obtain ⟨xa, dxa, _, _, _, _, rfl, ga, _⟩ := id a
  obtain ⟨xb, dxb, _, _, _, _, rfl, gb, _⟩ := id b
  exact ⟨xa, dxa, _, xb, dxb, _, rfl, rfl, ga, gb, .ref xa, .ref xb, A, B, rfl, a, b, fA, fB, fun _ _ N z H' pm so s hl => k _ N H' pm so s hl, fun _ h => absurd l8 h, fun h => by rw [ag] at h; cases h⟩
/-- what is told of parts -/
theorem lines_mem {e : Str × Ty} {M : Lib} : Lib.line e ∈ M.lines ↔ ∃ x ∈ M, Lib.line x = Lib.line e := List.mem_map
/-- a library without what it has in common and what it has in common are it -/
theorem Lib.both {L M A B : Lib} (fL : L.Fine) (pA : List.Perm A (L.filter fun e => !M.has e)) (pB : List.Perm B (L.filter fun e => M.has e)) : Lib.agree A B = true ∧ List.Perm (Lib.united A B) L := by
  have fA := (fL.filter (fun e => !M.has e)).perm pA
  have fB := (fL.filter (fun e => M.has e)).perm pB
  have out : ∀ e ∈ A, e.1 ∉ Lib.names B := fun e he hn => by
    have m := List.mem_filter.mp (pA.mem_iff.mp he)
    obtain ⟨x, hx, ex⟩ := List.mem_map.mp hn
    have m2 := List.mem_filter.mp (pB.mem_iff.mp hx)
    have g1 := Lib.get_mem fL.nodup m2.1
    rw [show x.1 = e.1 from ex, Lib.get_mem fL.nodup m.1] at g1
    have : x = e := Prod.ext ex (Option.some.inj g1).symm
    rw [this] at m2
    have h1 := m.2
    rw [m2.2] at h1
    cases h1
  refine ⟨(Lib.agree_iff fA).mpr fun e he hn => ?_, ?_⟩
  · obtain ⟨x, hx, ex⟩ := List.mem_map.mp hn
    exact absurd (List.mem_map_of_mem he) (ex ▸ out x hx)
  · have e1 : A.filter (fun e => !decide (e.1 ∈ Lib.names B)) = A := List.filter_eq_self.mpr fun e he => by simpa using out e he
    rw [Lib.united, e1]
    refine (List.Perm.append pA pB).trans ?_
    refine List.perm_append_comm.trans ?_
    exact List.filter_append_perm (fun e => M.has e) L

/-! ### lines tell parts; which library is a part of which -/
theorem split_once {c : Nat} : ∀ {a b x y : List Nat}, c ∉ a → c ∉ b → a ++ c :: x = b ++ c :: y → a = b ∧ x = y
  | [], [], _, _, _, _, h => ⟨rfl, (List.cons.inj h).2⟩
  | [], z :: b, _, _, _, nb, h => absurd (List.mem_cons.mpr (.inl (List.cons.inj h).1)) nb
  | z :: a, [], _, _, na, _, h => absurd (List.mem_cons.mpr (.inl (List.cons.inj h).1.symm)) na
  | z :: a, w :: b, x, y, na, nb, h => by
    obtain ⟨h1, h2⟩ := List.cons.inj h
    obtain ⟨r1, r2⟩ := split_once (fun k => na (List.mem_cons_of_mem _ k)) (fun k => nb (List.mem_cons_of_mem _ k)) h2
    exact ⟨by rw [h1, r1], r2⟩
theorem tl_inj {a b : Str} (h : a.cps.toList = b.cps.toList) : a = b := by
  cases a with
  | mk x =>
    cases b with
    | mk y => exact congrArg Str.mk (Array.ext' h)
theorem Lib.line_inj {e f : Str × Ty} (we : Wd e.1) (wf : Wd f.1) (h : Lib.line e = Lib.line f) : e.1 = f.1 ∧ e.2.text = f.2.text := by
  have q := congrArg tl h
  rw [Lib.line, Lib.line, tl_append, tl_append, tl_append, tl_append, tl_append, tl_append, List.append_assoc, List.append_assoc, List.append_assoc, List.append_assoc] at q
  have q2 : e.1.cps.toList ++ 32 :: ([58, 32] ++ e.2.text.cps.toList) = f.1.cps.toList ++ 32 :: ([58, 32] ++ f.2.text.cps.toList) := by
    have es : tl Str.empty = [] := rfl
    have ss : tl (" : " : Str) = [32, 58, 32] := by decide +kernel
    rw [es, ss, List.nil_append, List.nil_append] at q
    exact q
  obtain ⟨q3, q4⟩ := split_once (word_not we.1 (by omega)) (word_not wf.1 (by omega)) q2
  exact ⟨tl_inj q3, tl_inj (List.append_cancel_left q4)⟩
theorem Lib.all_has {L M : Lib} (wL : ∀ e ∈ L, Wd e.1) (fM : M.Fine) : (L.lines.all fun x => decide (x ∈ M.lines)) = L.all fun e => M.has e := by
  rw [Lib.lines, List.all_map, Bool.eq_iff_iff, List.all_eq_true, List.all_eq_true]
  refine forall_congr' fun e => forall_congr' fun he => ?_
  show decide (Lib.line e ∈ M.lines) = true ↔ _
  rw [decide_eq_true_iff, Lib.has_mem fM]
  constructor
  · intro h
    obtain ⟨f, hf, ef⟩ := List.mem_map.mp h
    obtain ⟨e1, e2⟩ := Lib.line_inj (fM.words f hf) (wL e he) ef
    exact ⟨f.2, by rw [← e1]; exact hf, e2⟩
  · rintro ⟨t, ht, et⟩
    exact List.mem_map.mpr ⟨_, ht, by rw [Lib.line, Lib.line, et]⟩
theorem Lib.has_self {L : Lib} (f : L.Fine) {e : Str × Ty} (he : e ∈ L) : L.has e = true := (Lib.has_mem f).mpr ⟨e.2, he, rfl⟩
theorem all_len {α : Type} (p : α → Bool) : ∀ l : List α, l.all p = ((l.filter p).length == l.length)
  | [] => rfl
  | a :: l => by
    have ih := all_len p l
    by_cases c : p a = true
    · rw [List.all_cons, c, Bool.true_and, List.filter_cons_of_pos c, List.length_cons, List.length_cons, ih]
      simp
    · have le := List.length_filter_le p l
      have c' : p a = false := by simpa using c
      rw [List.all_cons, c', Bool.false_and, List.filter_cons_of_neg c, List.length_cons]
      have : ¬ (List.filter p l).length = l.length + 1 := by omega
      simp [this]
theorem all_perm {α : Type} {l m : List α} (h : List.Perm l m) (p : α → Bool) : l.all p = m.all p := by
  rw [Bool.eq_iff_iff, List.all_eq_true, List.all_eq_true]
  exact forall_congr' fun x => by rw [h.mem_iff]
theorem part_is {L M L1 M1 : Lib} (fL : L.Fine) (fM : M.Fine) (p : List.Perm L1 L) (q : List.Perm M1 M) : (Lib.lines L1).all (fun x => decide (x ∈ Lib.lines M1)) = L.all fun e => M.has e := by
  have e : (fun e => Lib.has M1 e) = fun e => M.has e := funext fun e => Lib.has_perm fM q e
  rw [Lib.all_has (fL.perm p).words (fM.perm q), e, all_perm p]
/-- what joined libraries have and a part of them has not -/
theorem Lib.united_less {L M : Lib} (fL : L.Fine) (fM : M.Fine) (ag : Lib.agree L M = true) : ((Lib.united L M).filter fun e => !M.has e) = L.filter fun e => !M.has e := by
  have e2 : M.filter (fun e => !M.has e) = [] := List.filter_eq_nil_iff.mpr fun e he => by rw [Lib.has_self fM he]; simp
  rw [Lib.united, List.filter_append, e2, List.append_nil, List.filter_filter]
  refine List.filter_congr fun e he => ?_
  by_cases c : e.1 ∈ M.names
  · obtain ⟨f, hf, ef⟩ := List.mem_map.mp c
    have inL : f.1 ∈ L.names := by rw [show f.1 = e.1 from ef]; exact List.mem_map_of_mem he
    obtain ⟨t, h1, h2⟩ := (Lib.agree_iff fL).mp ag f hf inL
    have g1 := Lib.get_mem fL.nodup h1
    rw [show (f.1, t).1 = e.1 from ef, Lib.get_mem fL.nodup he] at g1
    have e3 : e.2 = t := Option.some.inj g1
    have hm : M.has e = true := (Lib.has_mem fM).mpr ⟨f.2, by rw [← show f.1 = e.1 from ef]; exact hf, by rw [e3, h2]⟩
    rw [hm]
    simp
  · have hm : M.has e = false := by rw [Lib.has, Lib.get_none c]
    rw [hm]
    simp [c]
theorem Lib.united_partL {L M : Lib} (fL : L.Fine) (fM : M.Fine) (ag : Lib.agree L M = true) {U : Lib} (fU : U.Fine) (pU : List.Perm U (Lib.united L M)) : (L.all fun e => U.has e) = true := List.all_eq_true.mpr fun e he => by
  by_cases c : e.1 ∈ M.names
  · obtain ⟨f, hf, ef⟩ := List.mem_map.mp c
    have inL : f.1 ∈ L.names := by rw [show f.1 = e.1 from ef]; exact List.mem_map_of_mem he
    obtain ⟨t, h1, h2⟩ := (Lib.agree_iff fL).mp ag f hf inL
    have g1 := Lib.get_mem fL.nodup h1
    rw [show (f.1, t).1 = e.1 from ef, Lib.get_mem fL.nodup he] at g1
    have e3 : e.2 = t := Option.some.inj g1
    refine (Lib.has_mem fU).mpr ⟨f.2, pU.mem_iff.mpr (List.mem_append_right _ ?_), by rw [e3, h2]⟩
    rw [← show f.1 = e.1 from ef]
    exact hf
  · exact Lib.has_self fU (pU.mem_iff.mpr (List.mem_append_left _ (List.mem_filter.mpr ⟨he, by simpa using c⟩)))
theorem Lib.united_partM {L M : Lib} {U : Lib} (fU : U.Fine) (pU : List.Perm U (Lib.united L M)) : (M.all fun e => U.has e) = true := List.all_eq_true.mpr fun _ he => Lib.has_self fU (pU.mem_iff.mpr (List.mem_append_right _ he))
theorem Lib.Fine.united {L M U : Lib} (fL : L.Fine) (fM : M.Fine) (l8 : (Lib.united L M).length ≤ 8) (pU : List.Perm U (Lib.united L M)) : U.Fine :=
  ⟨fun e he => Lib.united_words fL fM e (pU.mem_iff.mp he), fun e he => Lib.united_fits fL fM e (pU.mem_iff.mp he), by rw [pU.length_eq]; exact l8, ((pU.map (fun e : Str × Ty => e.1)).nodup_iff).mpr (Lib.united_nodup fL.nodup fM.nodup)⟩
theorem Lib.united_nil (L : Lib) : Lib.agree L [] = true ∧ Lib.united L [] = L := by
  refine ⟨rfl, ?_⟩
  rw [Lib.united, List.append_nil]
  exact List.filter_eq_self.mpr fun e _ => by simp [Lib.names]
theorem Lib.filter_self {L : Lib} (f : L.Fine) : (L.filter fun e => L.has e) = L := List.filter_eq_self.mpr fun _ he => Lib.has_self f he
theorem Lib.filter_none {L : Lib} (f : L.Fine) : (L.filter fun e => !L.has e) = [] := List.filter_eq_nil_iff.mpr fun e he => by rw [Lib.has_self f he]; simp
theorem isL_ins {C D : Addr} {H : Hp} {L : Lib} {v : V} (h : IsL C D H L v) : ∃ a dx d p q, v = .ref a ∧ H a = some (.ins D dx [("_parts", .ref d), ("_names", .ref p), ("_lines", .ref q)]) := by
  obtain ⟨x, dx, d, p, q, _, rfl, hx, _⟩ := h
  exact ⟨x, dx, d, p, q, rfl, hx⟩
theorem IsK.ref {H : Hp} : ∀ {t : Ty} {v : V}, IsK H t v → ∃ a, v = .ref a
  | .mk _ _, v, h => by
    rw [IsK] at h
    obtain ⟨p, _, _, rfl, _⟩ := h
    exact ⟨p, rfl⟩


end My
namespace My
open PySem PySem.Spec PyProof.Rows L2 TL
set_option pp.maxSteps 400
set_option pp.deepTerms false
/-! ### a def whose code object is known -/
theorem _root_.L2.Fun.okC {P : Program} {w : World} {K : PySem.W.Frag} {mg : Str → Option Value} {base : Heap} {x qual : Str} {st : Stmt} {f : Addr} {fd : FuncData} {N ps : List Str} {k : Nat} {sp : Sp} (F : Fun K x qual st f fd) (S : FnScope N ps (defScope st)) (len : ∀ vs H Q E, sp vs H Q E → vs.length = ps.length)
    (body : ∀ (A : Around) (outer : List Env) (s : Shared) (H : Hp) (vs : List V) (Q : VK) (E : XK), Room k (A.deeper (envOfC qual (defScope st) s.heap.objs.size f fd.code)) → sp vs H Q E →
      ∃ t, PSs (cxOf CX0 P w K mg base N qual (defScope st) f fd.code A outer s H E).nox (defBody st) t ∧ t { nx := fun _ H' => Q .non H', rt := Q } (start N vs) H) : FnOk P w K mg base CX0 (k + 1) f fd ps sp := by
  obtain ⟨oc, od, kV, doc, pm, an, cv, ct, osl, rfl, lk, isCode⟩ := F.ex
  refine fn_of lk isCode S len fun A outer s H vs Q E room h => ?_
  obtain ⟨t, runs, ends⟩ := body A outer s H vs Q E room h
  exact ⟨t, runs.nox, ends⟩
theorem exm_self {K : PySem.W.Frag} {mg : Str → Option Value} {x : Str} {C : Addr} (e : ErrT K mg x C) : PySem.W.exmOne K (.ref C) (.ref C) = some true := by
  have q := e.exc
  unfold PySem.W.excIn at q
  split at q
  · rename_i cd sl hk
    split at q
    · rename_i C2 bm _ _ _ _ _ _ hm _
      simp only [Bool.and_eq_true] at q
      have e1 : C2 = C := beq_iff_eq.mp q.1.1.1.1.1
      have hc : PySem.W.clsIn K C = some cd := by
        unfold PySem.W.clsIn
        rw [hk]
      have sub : PySem.W.subIn K (.ref C) (.ref C) = some true := by
        show (PySem.W.clsIn K C).bind (fun cd => if cd.mro.isEmpty then none else some (cd.mro.contains (.ref C))) = some true
        rw [hc, Option.bind_some, hm, e1]
        simp
      unfold PySem.W.exmOne
      rw [if_pos (by rw [e.b]; rfl)]
      show (if ((PySem.W.clsIn K C).isSome && PySem.W.typeIn K (.ref C) == some (.type "type")) = true then PySem.W.subIn K (.ref C) (.ref C) else none) = some true
      rw [if_pos (by rw [hc, e.t]; rfl), sub]
    · cases q
  · cases q
/-! ### heaps: all stands but the dice and the tables -/
def ExtL (d : Addr) (H H' : Hp) : Prop := ∀ a o, a ≠ d → (∀ ps, o ≠ .tbl ps) → H a = some o → H' a = some o
theorem ExtL.trans {d : Addr} {H H1 H2 : Hp} (a : ExtL d H H1) (b : ExtL d H1 H2) : ExtL d H H2 := fun x o n t h => b x o n t (a x o n t h)
theorem ExtL.of {d : Addr} {H H' : Hp} (e : Ext d H H') : ExtL d H H' := fun a o n _ h => e a o n h
theorem ExtL.same {d : Addr} {H H' : Hp} (e : Same H H') : ExtL d H H' := fun a o _ _ h => e a o h
theorem ExtL.extN {d : Addr} {H H' : Hp} (e : LamX.ExtN H H') : ExtL d H H' := fun a o _ t h => e a o h t
theorem ExtL.refl {d : Addr} (H : Hp) : ExtL d H H := fun _ _ _ _ h => h
theorem ExtL.held {d : Addr} {H H' : Hp} (e : ExtL d H H') (D : IsDice H d) : Held H H' := fun b o hb f => by
  refine e b o (fun z => ?_) (fun ps z => ?_) hb
  · obtain ⟨x, y, u, hd⟩ := D
    rw [z, hd] at hb
    cases hb
    exact f
  · rw [z] at f
    exact f
theorem extN_held {H H' : Hp} (e : LamX.ExtN H H') : Held H H' := fun b o hb f => e b o hb fun ps z => by
  rw [z] at f
  exact f
theorem IsDice.extN {H H' : Hp} {d : Addr} (D : IsDice H d) (e : LamX.ExtN H H') : IsDice H' d := by
  obtain ⟨a, b, c, h⟩ := D
  exact ⟨a, b, c, e _ _ h fun ps z => nomatch z⟩
theorem ExtL.lst {d l : Addr} {H H' : Hp} {xs : List V} (e : ExtL d H H') (n : l ≠ d) (h : H l = some (.lst xs)) : H' l = some (.lst xs) := e _ _ n (fun _ z => nomatch z) h
theorem ExtL.free {d l : Addr} {H H' : Hp} (e : ExtL d H H') (T : ∀ ps, H l ≠ some (.tbl ps)) (n : l ≠ d) (h : H' l = none) : H l = none := by
  cases q : H l with
  | none => rfl
  | some o =>
    rw [e l o n (fun ps z => T ps (by rw [q, z])) q] at h
    cases h
/-- the tables, over whatever leaves all but the dice -/
theorem tabs_ext {T : List (Addr × Str)} {H H' : Hp} {d : Addr} (t : LamX.Tabs T H) (D : IsDice H d) (e : Ext d H H') : LamX.Tabs T H' := fun p hp => by
  obtain ⟨ps, h1, h2, h3⟩ := t p hp
  have no : ∀ b o, H b = some o → (∀ xs, o ≠ .lst xs) → H' b = some o := fun b o hb nl => e b o (fun z => by
    obtain ⟨x, y, u, hd⟩ := D
    rw [z, hd] at hb
    exact nl _ (Option.some.inj hb).symm) hb
  refine ⟨ps, no _ _ h1 (fun xs z => nomatch z), h2, fun pos cv hc => ?_⟩
  obtain ⟨c, e1, e2⟩ := h3 pos cv hc
  exact ⟨c, e1, no _ _ e2 fun xs z => by
    unfold LamX.CodeO at z
    cases z⟩

/-! ### a law's _law_got(lambda: ..) that tells one error -/
theorem pe_got1 {X : Cx} {k : Nat} {g CE c PT : Addr} {fdg : FuncData} {params : Arguments} {body : Expr} {scope : Scope} {t : XK → TE} {p lpos pos : PySem.Pos} (F : Fun X.K "_law_got" "_law_got" s__law_got g fdg) (M : X.mg "_law_got" = some (.ref g)) (B : L2.Binds X.K fdg ["_law_call"] []) (err : X.mg "InvalidLibrary" = some (.ref CE))
    (TB : LamX.TabB X.base X.mg c PT) (code : X.env.code = .ref c) (room : Room (k + 2) X.A) (L : LamX.LamS X.env.scope scope) (hdef : defaultsOf params X.env = ([], []))
    (hbind : ∀ (q : Str) (cl : List (Str × Addr)) (pm cv ctv : Value), bindArgs (PySem.W.kla_fn "<lambda>" q params body scope cl pm cv ctv) ⟨[], []⟩ = pure [])
    (hbody : ∀ (A : Around) (outer : List Env) (s : Shared) (H : Hp) (E : XK) (f c2 : Addr), Room k (A.deeper (LamX.lamEnv X scope s.heap.objs.size f c2)) → PE (LamX.lamCx X A outer s H E scope f c2) body (t E)) (hg : Gl X "_law_got" := by rfl) :
    PE X (.Call (.Name "_law_got" p) [.Lambda params body scope lpos] [] pos) (LamX.tLam [(PT, X.env.qual ++ "<lambda>")] (LamX.TTold X.K CE "library") t) := by
  obtain ⟨oc, od, kV, doc, pm, an, cv, ct, osl, rfl, lk, isCode⟩ := F.ex
  exact LamX.pe_lamcall hg M F.kp lk isCode B sc__law_got rfl (.inl rfl) (LamX.told_gives (by rfl) err (by decide) fun f => rfl) TB code (List.mem_singleton.mpr rfl) (fun q hq _ => by rw [List.mem_singleton.mp hq]) room L hdef hbind hbody


end My
namespace My
open PySem PySem.Spec PyProof.Rows L2 TL
set_option pp.maxSteps 400
set_option pp.deepTerms false
/-! ### the law's kinds with other atoms; what the package makes of a kind, or the word -/
theorem len_ins_places (t : Ty) : t.ins.length + 1 ≤ t.places.length := by
  rw [Ty.places_of t, List.length_append]
  exact Nat.succ_le_succ (Ty.len_placesL t.ins)
theorem placesL_mem_len {t u : Ty} (h : u ∈ t.ins) : u.places.length ≤ t.places.length := by
  have := Ty.few_ins h
  rw [Ty.places_of t, List.length_append]
  omega
def spr__law_atoms_put (n : Nat) (_ : PySem.W.Frag) : Sp := fun vs H Q _ => ∃ v t d ws f, vs = [v, .ref d] ∧ IsK H t v ∧ IsN H d ws ∧ (∀ x ∈ t.places, look ws x = some (f x)) ∧ t.order < n ∧ t.places.length ≤ 900 ∧ ∀ v' H', Same H H' → IsK H' (Ty.ren f t) v' → Q v' H'
def sp__law_atoms_put (K : PySem.W.Frag) : Sp := spr__law_atoms_put 6 K
section
variable {P : Program} {w : World} {K : PySem.W.Frag} {mg : Str → Option Value} {base : Heap} {C_Type : Addr}
theorem ok__law_atoms_put (T : Txt K mg C_Type C_Library) {f : Addr} {fd : FuncData} (F : Fun K "_law_atoms_put" "_law_atoms_put" s__law_atoms_put f fd) (M : mg "_law_atoms_put" = some (.ref f)) (B : Binds K fd ["_law_kind_here", "_law_names"] []) : ∀ n : Nat, FnOk P w K mg base CX0 (1 + n) f fd ["_law_kind_here", "_law_names"] (spr__law_atoms_put n K)
  | 0 => by
    refine F.ok sc__law_atoms_put (fun vs H Q E h => ?_) (fun cdv A outer s H vs Q E hr h => ?_) <;> (obtain ⟨_, _, _, _, _, _, _, _, _, z, _⟩ := h; exact absurd z (Nat.not_lt_zero _))
  | n + 1 => by
    have ih := ok__law_atoms_put T F M B n
    have C_self : CalN P w K mg base "_law_atoms_put" (1 + n) ["_law_kind_here", "_law_names"] (spr__law_atoms_put n K) := ⟨f, fd, ih, M, F.kp, B⟩
    have nd := sc__law_atoms_put.nd
    refine F.ok sc__law_atoms_put (fun vs H Q E h => ?_) (fun cdv A outer s H vs Q E hr h => ?_)
    · obtain ⟨v, t, d, ws, g, rfl, _⟩ := h
      rfl
    · obtain ⟨v, t, dn, ws, g, rfl, ht, hd, hg, lo, ft, q⟩ := h
      have hr : Room (1 + n) (A.deeper (envOfC "_law_atoms_put" (defScope s__law_atoms_put) s.heap.objs.size f cdv)) := hr
      refine ⟨_, (pss_one (ps_ret (pe_tup (pa_cons (pe_callTy call_tuple_of (by rfl) T.b_tuple (by decide +kernel) (pa_cons (pe_lcD (own := [("_law_one", 2)]) (by rfl) nd (pi_tup (pe_ix ix_tup (pv 0) pe_int (fun _ _ => rfl))) (blkOk_by (own := [("_law_one", 2)]) (N := ["_law_kind_here", "_law_names", "_law_one"]) (sc := (defScope s__law_atoms_put)) (by decide +kernel)) (fun _ _ _ _ _ => pg_name (i := 2) nd rfl (Or.inl rfl)) (fun _ _ _ _ _ => pts_nil) (fun _ _ _ _ _ => (pe_callN C_self (hr.mono (by first | decide | omega)) rfl (pa_cons (pv 2) (pa_cons (pv 1) pa_nil))))) pa_nil)) (pa_cons (pe_dget2 (by first | exact Nat.lt_of_le_of_lt (Nat.add_le_add_left (by decide : 1 ≤ 64) _) hr.units) (pv 1) (pe_ix ix_tup (pv 0) pe_int (fun _ _ => rfl)) (pe_ix ix_tup (pv 0) pe_int (fun _ _ => rfl)) ⟨rfl, rfl, rfl, rfl⟩) pa_nil))))), ?_⟩
      obtain ⟨p, q', rs, rfl, hp, hq, hk⟩ := ht.at
      have lr := hk.len
      have l1 := len_ins_places t
      have eo : t.order = Ty.orderL t.ins := by cases t; rw [Ty.order]; rfl
      refine ⟨.ref p, rfl, p, _, 0, _, rfl, rfl, SqT.of hp, rfl, q', rfl, ⟨rs, SqT.of hq⟩, fun D hD => ?_⟩
      refine lc_tup (xs := rs) (fun i H' => ∃ rs', H' D = some (.lst rs') ∧ IsKs H' ((t.ins.take i).map (Ty.ren g)) rs' ∧ Same H H') ?_ (fun i H' _ hP => ?_) (fun i y H' hy hP => ?_) (fun H' hP => ?_)
      · exact ⟨[], upd_same, by rw [List.take_zero]; exact IsKs.nil, (Same.refl H).mut hD⟩
      · obtain ⟨_, _, _, s2⟩ := hP
        exact SqT.of (s2 _ _ hq)
      · obtain ⟨rs', hD1, hl1, s2⟩ := hP
        obtain ⟨s, es, hs⟩ := hk.get hy
        have sm := List.mem_of_getElem? es
        have lo' : s.order < n := by
          have := Ty.low_ins sm
          omega
        have f1 := placesL_mem_len sm
        refine ⟨rfl, tyes ?_⟩
        refine ⟨y, rfl, .ref dn, rfl, y, s, dn, ws, g, rfl, IsK.held s2.held s y hs, s2 _ _ hd, fun x hx => hg x ?_, lo', by omega, fun v' H2 s3 hx => ?_⟩
        · rw [Ty.places_of t]
          exact List.mem_append_left _ (Ty.places_sub sm x hx)
        refine ⟨rs', s3 _ _ hD1, lt_line' (by rw [hl1.len, List.length_map, List.length_take]; omega), rs' ++ [v'], upd_same, ?_, (s2.trans s3).mut hD⟩
        rw [take_next es, List.map_append]
        have h3 : Held H2 (upd H2 D (.lst (rs' ++ [v']))) := held_lst (s3 _ _ hD1)
        exact (IsKs.held h3 _ _ (IsKs.held s3.held _ _ hl1)).app (.cons (IsK.held h3 _ _ hx) .nil)
      · obtain ⟨rs', hD1, hl1, s2⟩ := hP
        rw [lr, List.take_length] at hl1
        refine ⟨D, rs', rfl, .inl ⟨SqL.of hD1, fun l hl2 => ?_⟩⟩
        have s3 := s2.new (o := .tup rs') hl2
        have at_ : t.atom ∈ t.places := by
          rw [Ty.places_of t]
          exact List.mem_append_right _ (List.mem_singleton.mpr rfl)
        refine ⟨.ref dn, rfl, dn, rfl, .inl ⟨_, .inl (s3 _ _ hd)⟩, .ref p, rfl, p, _, 1, _, rfl, rfl, SqT.of (s3 _ _ hp), rfl, .ref p, rfl, p, _, 1, _, rfl, rfl, SqT.of (s3 _ _ hp), rfl, some (.str (g t.atom)), IsN.get (s3 _ _ hd) (hg _ at_), by show 2 ≤ sizeLine; decide, fun p2 hp2 => ?_⟩
        have s4 : Same (upd H' l (.tup rs')) (upd (upd H' l (.tup rs')) p2 (.tup [.ref l, .str (g t.atom)])) := (Same.refl _).new hp2
        refine q _ _ (s3.trans s4) ?_
        rw [Ty.ren_eq, IsK]
        exact ⟨p2, l, rs', rfl, upd_same, s4 _ _ upd_same, IsKs.held (((Same.refl H').new hl2).trans s4).held _ _ hl1⟩
end


end My
namespace My
open PySem PySem.Spec PyProof.Rows L2 TL
set_option pp.maxSteps 400
set_option pp.deepTerms false
/-! ### a drawn step with other atoms or names -/
abbrev lamQ : Str := ("_law_step" : Str) ++ ".<locals>." ++ "<lambda>"
def nineW : List Str := ["f", "g", "h", "k", "z", "p", "qq", "r", "s"]
theorem nine_wd : ∀ x ∈ nineW, Wd x := fun x hx => by
  have h : nineW.all wdB = true := by decide +kernel
  exact wdB_wd (List.all_eq_true.mp h x hx)
/-- what a step told, and the plain library behind it -/
def StepR (C D : Addr) (H : Hp) (M : Lib) (v : V) : Prop := (M.length ≤ 8 ∧ M.Small5 ∧ ∃ N : Lib, List.Perm N M ∧ sortedS N.names = true ∧ IsL C D H N v) ∨ (¬ M.length ≤ 8 ∧ v = .str "library")
def sp__law_names_step (K : PySem.W.Frag) (C D : Addr) : Sp := fun vs H Q _ => ∃ d l kvs v, ∃ L L1 : Lib, vs = [.ref d, .ref l, v] ∧ IsDice H d ∧ H l = some (.dK kvs) ∧ IsQ H L kvs ∧ L.Small5 ∧ List.Perm L1 L ∧ sortedS L1.names = true ∧ IsL C D H L1 v ∧
  ∀ p u l' kvs' M H', Ext d H H' → IsDice H' d → p ≠ d → H' p = some (.lst [u, .ref l']) → H' l' = some (.dK kvs') → IsQ H' M kvs' → StepR C D H' M u → Q (.ref p) H'
section
variable {P : Program} {w : World} {K : PySem.W.Frag} {mg : Str → Option Value} {base : Heap} {C_Type C_Library : Addr}
theorem ok__law_names_step (T : Txt K mg C_Type C_Library) (c__law_library_atoms : CalN P w K mg base "_law_library_atoms" 8 ["_law_library_here"] (sp__law_library_atoms K)) (c__law_some : CalN P w K mg base "_law_some" 2 ["_law_dice_here", "_law_items", "_law_size"] (sp__law_some2 K)) (m_Library_renamed : MetC P w K mg base C_Library "renamed" 5 ["self", "names"] (sp_Library_renamed K C_Type C_Library)) (c__law_roll : CalN P w K mg base "_law_roll" 1 ["_law_dice_here", "_law_total"] (sp__law_roll K)) (m_Library_with_atoms : MetC P w K mg base C_Library "with_atoms" 13 ["self", "names"] (sp_Library_with_atoms K C_Type C_Library)) (c__law_pick : CalN P w K mg base "_law_pick" 2 ["_law_dice_here", "_law_items"] (sp__law_pick K)) (c__law_atoms_put : CalN P w K mg base "_law_atoms_put" 7 ["_law_kind_here", "_law_names"] (sp__law_atoms_put K)) (m_Library___eq__ : MetC P w K mg base C_Library "__eq__" 1 ["self", "other"] (sp_Library___eq__ K C_Type C_Library)) {f : Addr} {fd : FuncData} (F : Fun K "_law_names_step" "_law_names_step" s__law_names_step f fd) : FnOk P w K mg base CX0 14 f fd ["_law_dice_here", "_law_library_here", "_law_made_here"] (sp__law_names_step K C_Type C_Library) := by
  have nd := sc__law_names_step.nd
  refine F.ok sc__law_names_step (fun vs H Q E h => ?_) (fun cdv A outer s H vs Q E hr h => ?_)
  · obtain ⟨d, l, kvs, v, L, L1, rfl, _⟩ := h
    rfl
  · obtain ⟨d, l, kvs, v, L, L1, rfl, di, hl, hQ, sL, pm1, so1, hL, q⟩ := h
    refine ⟨_, (pss_cons (ps_set (i := 3) nd rfl (.inl rfl) (pe_callN c__law_library_atoms (hr.mono (by first | decide | omega)) rfl (pa_cons (pv 1) pa_nil)))
      (pss_cons (ps_if (pt_cmpR op_eq (pe_callN c__law_roll (hr.mono (by first | decide | omega)) rfl (pa_cons (pv 0) (pa_cons pe_int pa_nil))) pe_int (nomark _)) (pss_cons (ps_set (i := 4) nd rfl (.inr rfl) (pe_callTy (call_dictP rfl) (by rfl) T.b_dict (by decide +kernel) (pa_cons (pe_lcD (own := [("_law_atom", 9)]) (by rfl) nd (pi_list (pv 3)) (blkOk_by (own := [("_law_atom", 9)]) (N := ["_law_dice_here", "_law_library_here", "_law_made_here", "_law_atoms", "_law_names", "_law_after", "_law_words", "_law_back", "_law_told", "_law_atom", "_law_name"]) (sc := (defScope s__law_names_step)) (by decide +kernel)) (fun _ _ _ _ _ => pg_name (i := 9) nd rfl (Or.inl rfl)) (fun _ _ _ _ _ => pts_nil) (fun _ _ _ _ _ => (pe_tup (pa_cons (pv 9) (pa_cons (pe_callN c__law_pick (hr.mono (by first | decide | omega)) rfl (pa_cons (pv 0) (pa_cons (pe_lst (pa_cons pe_str (pa_cons pe_str (pa_cons pe_str (pa_cons pe_str pa_nil))))) pa_nil))) pa_nil))))) pa_nil)))
      (pss_cons (ps_set (i := 5) nd rfl (.inl rfl) (pe_callTy (call_dictP rfl) (by rfl) T.b_dict (by decide +kernel) (pa_cons (pe_lock (pe_lcD (own := [("_law_name", 10)]) (by rfl) nd (pi_keys (pv 1)) (blkOk_by (own := [("_law_name", 10)]) (N := ["_law_dice_here", "_law_library_here", "_law_made_here", "_law_atoms", "_law_names", "_law_after", "_law_words", "_law_back", "_law_told", "_law_atom", "_law_name"]) (sc := (defScope s__law_names_step)) (by decide +kernel)) (fun _ _ _ _ _ => pg_name (i := 10) nd rfl (Or.inl rfl)) (fun _ _ _ _ _ => pts_nil) (fun _ _ _ _ _ => (pe_tup (pa_cons (pv 10) (pa_cons (pe_callN c__law_atoms_put (hr.mono (by first | decide | omega)) rfl (pa_cons (pe_dget (by first | exact Nat.lt_of_le_of_lt (Nat.add_le_add_left (by decide : 1 ≤ 64) _) hr.units | exact Nat.lt_of_le_of_lt (Nat.add_le_add_left (by decide : 4 ≤ 64) _) hr.units | exact Nat.lt_of_le_of_lt (Nat.add_le_add_left (by decide : 7 ≤ 64) _) hr.units) (pv 1) (pv 10) (fun _ _ => rfl)) (pa_cons (pv 4) pa_nil))) pa_nil)))))) pa_nil)))
      (pss_one (ps_ret (pe_lst (pa_cons (pe_methC m_Library_with_atoms T.k_Library (hr.mono (by first | decide | omega)) (pv 2) (pa_cons (pv 4) pa_nil)) (pa_cons (pv 5) pa_nil))))))) pss_nil)
      (pss_cons (ps_set (i := 6) nd rfl (.inl rfl) (pe_callN c__law_some (hr.mono (by first | decide | omega)) rfl (pa_cons (pv 0) (pa_cons (pe_lst (pa_cons pe_str (pa_cons pe_str (pa_cons pe_str (pa_cons pe_str (pa_cons pe_str (pa_cons pe_str (pa_cons pe_str (pa_cons pe_str (pa_cons pe_str pa_nil)))))))))) (pa_cons (pe_callB call_lenD (by rfl) T.b_len (by decide +kernel) (pa_cons (pv 1) pa_nil)) pa_nil)))))
      (pss_cons (ps_set (i := 4) nd rfl (.inr rfl) (pe_callTy (call_dictP rfl) (by rfl) T.b_dict (by decide +kernel) (pa_cons (pe_listzipL rfl (by rfl) T.b_list (by rfl) T.b_zip (pa_cons (pe_callB (call_sortedD rfl) (by rfl) T.b_sorted (by decide +kernel) (pa_cons (pv 1) pa_nil)) (pa_cons (pv 6) pa_nil))) pa_nil)))
      (pss_cons (ps_set (i := 7) nd rfl (.inl rfl) (pe_callTy (call_dictP rfl) (by rfl) T.b_dict (by decide +kernel) (pa_cons (pe_lock (pe_lcD (own := [("_law_name", 10)]) (by rfl) nd (pi_keys (pv 4)) (blkOk_by (own := [("_law_name", 10)]) (N := ["_law_dice_here", "_law_library_here", "_law_made_here", "_law_atoms", "_law_names", "_law_after", "_law_words", "_law_back", "_law_told", "_law_atom", "_law_name"]) (sc := (defScope s__law_names_step)) (by decide +kernel)) (fun _ _ _ _ _ => pg_name (i := 10) nd rfl (Or.inl rfl)) (fun _ _ _ _ _ => pts_nil) (fun _ _ _ _ _ => (pe_tup (pa_cons (pe_dget (by first | exact Nat.lt_of_le_of_lt (Nat.add_le_add_left (by decide : 1 ≤ 64) _) hr.units | exact Nat.lt_of_le_of_lt (Nat.add_le_add_left (by decide : 4 ≤ 64) _) hr.units | exact Nat.lt_of_le_of_lt (Nat.add_le_add_left (by decide : 7 ≤ 64) _) hr.units) (pv 4) (pv 10) (fun _ _ => rfl)) (pa_cons (pv 10) pa_nil)))))) pa_nil)))
      (pss_cons (ps_set (i := 8) nd rfl (.inl rfl) (pe_methC m_Library_renamed T.k_Library (hr.mono (by first | decide | omega)) (pv 2) (pa_cons (pv 4) pa_nil)))
      (pss_cons (ps_set (i := 5) nd rfl (.inl rfl) (pe_callTy (call_dictP rfl) (by rfl) T.b_dict (by decide +kernel) (pa_cons (pe_lock (pe_lcD (own := [("_law_name", 10)]) (by rfl) nd (pi_keys (pv 1)) (blkOk_by (own := [("_law_name", 10)]) (N := ["_law_dice_here", "_law_library_here", "_law_made_here", "_law_atoms", "_law_names", "_law_after", "_law_words", "_law_back", "_law_told", "_law_atom", "_law_name"]) (sc := (defScope s__law_names_step)) (by decide +kernel)) (fun _ _ _ _ _ => pg_name (i := 10) nd rfl (Or.inl rfl)) (fun _ _ _ _ _ => pts_nil) (fun _ _ _ _ _ => (pe_tup (pa_cons (pe_dget (by first | exact Nat.lt_of_le_of_lt (Nat.add_le_add_left (by decide : 1 ≤ 64) _) hr.units | exact Nat.lt_of_le_of_lt (Nat.add_le_add_left (by decide : 4 ≤ 64) _) hr.units | exact Nat.lt_of_le_of_lt (Nat.add_le_add_left (by decide : 7 ≤ 64) _) hr.units) (pv 4) (pv 10) (fun _ _ => rfl)) (pa_cons (pe_dget (by first | exact Nat.lt_of_le_of_lt (Nat.add_le_add_left (by decide : 1 ≤ 64) _) hr.units | exact Nat.lt_of_le_of_lt (Nat.add_le_add_left (by decide : 4 ≤ 64) _) hr.units | exact Nat.lt_of_le_of_lt (Nat.add_le_add_left (by decide : 7 ≤ 64) _) hr.units) (pv 1) (pv 10) (fun _ _ => rfl)) pa_nil)))))) pa_nil)))
      (pss_one (ps_ret (pe_lst (pa_cons (pe_ifExp (pt_cmpR (op_eqC m_Library___eq__ (hr.mono (by first | decide | omega)) T.x_Library.nfirst) (pe_methC m_Library_renamed T.k_Library (hr.mono (by first | decide | omega)) (pv 8) (pa_cons (pv 7) pa_nil)) (pv 2) (nomark _)) (pv 8) pe_non) (pa_cons (pv 5) pa_nil)))))))))))), ?_⟩
    obtain ⟨x, dx, dp, p0, q', kvp, rfl, hx, hdp, hpp, hnn, hq⟩ := id hL
    have few := sL.fine.few
    have fine1 := sL.fine.perm pm1
    have t2 : 2 ≤ sizeLine := by decide
    have ld : l ≠ d := fun z => by
      obtain ⟨_, _, _, e⟩ := id di
      rw [z, e] at hl
      cases hl
    have ndK : (kvs.map (·.1)).Nodup := names_keys sL.fine.nodup hQ.keys
    refine ⟨.ref l, rfl, l, kvs, L, rfl, hl, hQ, sL, fun pa ys H1 s1 npa hpa nda soa mema lea => ?_⟩
    refine asg_go2 ?_
    dsimp only
    refine ⟨.ref d, rfl, d, 2, rfl, di.same s1, by decide, by decide, fun r H2 r0 r2 e2 d2 => ?_⟩
    have e02 : Ext d H H2 := (Ext.same s1).trans e2
    have hl2 := e02 _ _ ld hl
    have hQ2 := hQ.held (e02.held di)
    have hL2 := hL.heldD (e02.heldD di)
    have npd : pa ≠ d := di.ne npa
    have hpa2 := e2 _ _ npd hpa
    clear s1 hpa e2
    refine ⟨rfl, _, rfl, ite2 (fun _ => ?_) (fun _ => ?_)⟩
    · -- other atoms
      refine cut_set (fun v H' => ∃ dn ws, v = .ref dn ∧ IsN H' dn ws ∧ ws.map (·.1) = ys ∧ (∀ w ∈ ws, Wd w.2) ∧ Ext d H2 H' ∧ IsDice H' d ∧ dn ≠ d ∧ l ≠ dn) (fun Q' q' => ?_) ?_
      · refine ⟨.ref pa, rfl, pa, rfl, ⟨_, SqL.of hpa2⟩, fun D hD => ?_⟩
        have neD := d2.ne hD
        refine lc_list (xs := ys.map V.str) (fun i H' => ∃ (ps : List Addr) (ws : List (Str × Str)), H' D = some (.lst (ps.map V.ref)) ∧ Paired (fun p kv => H' p = some (.tup [kV kv.1, kv.2])) ps (ws.map fun p => ((Sum.inr p.1 : Key), V.str p.2)) ∧ ws.map (·.1) = ys.take i ∧ (∀ w ∈ ws, Wd w.2) ∧ H' pa = some (.lst (ys.map V.str)) ∧ Ext d H2 H' ∧ IsDice H' d) ?_ (fun i H' _ hP => ?_) (fun i y H' hy hP => ?_) (fun H' hP => ?_)
        · exact ⟨[], [], upd_same, .nil, by rw [List.take_zero]; rfl, fun _ h => absurd h List.not_mem_nil, (upd_ne (ne_of_none hpa2 hD)).trans hpa2, (Ext.refl H2).new hD, d2.new hD⟩
        · obtain ⟨_, _, _, _, _, _, h, _⟩ := hP
          exact SqL.of h
        · obtain ⟨ps, ws, hD1, pr, ew, hw, hpa3, e3, d3⟩ := hP
          have io := lt_of_get hy
          rw [List.length_map] at io
          rw [List.getElem?_map, List.getElem?_eq_getElem io] at hy
          cases hy
          have lw : ws.length = min i ys.length := by
            have := congrArg List.length ew
            rw [List.length_map, List.length_take] at this
            exact this
          have pl := Paired.length pr
          rw [List.length_map] at pl
          refine ⟨rfl, tyes ?_⟩
          refine ⟨.str ys[i], rfl, .ref d, rfl, by show 4 ≤ sizeLine; decide, fun pl hpl => ?_⟩
          have npl := d3.ne hpl
          refine ⟨d, pl, _, rfl, d3.new hpl, SqL.of upd_same, npl, (fun z => nomatch z), by show 4 < 1000000; decide, fun y HA hy eA dA => ?_⟩
          have ez : ∃ z : Str, y = .str z ∧ Wd z := by
            rcases List.mem_cons.mp hy with rfl | hy
            · exact ⟨_, rfl, wdB_wd (by decide +kernel)⟩
            rcases List.mem_cons.mp hy with rfl | hy
            · exact ⟨_, rfl, wdB_wd (by decide +kernel)⟩
            rcases List.mem_cons.mp hy with rfl | hy
            · exact ⟨_, rfl, wdB_wd (by decide +kernel)⟩
            · rw [List.mem_singleton.mp hy]
              exact ⟨_, rfl, wdB_wd (by decide +kernel)⟩
          obtain ⟨z, rfl, wz⟩ := ez
          refine ⟨t2, fun p1 h1 => ?_⟩
          have e3A := (e3.new (o := .lst [V.str "a", .str "b", .str "n", .str "m"]) hpl).trans eA
          have sl := (Same.refl H').new (o := .lst [V.str "a", .str "b", .str "n", .str "m"]) hpl
          have tups : ∀ (b : Addr) (xs : List V), H' b = some (.tup xs) → HA b = some (.tup xs) := fun b xs hb => eA _ _ (fun z => by
            obtain ⟨_, _, _, e⟩ := id d3
            rw [z, e] at hb
            cases hb) (sl _ _ hb)
          have hDA := eA _ _ neD (sl _ _ hD1)
          have prA : Paired (fun p kv => HA p = some (.tup [kV kv.1, kv.2])) ps (ws.map fun p => ((Sum.inr p.1 : Key), V.str p.2)) := Paired.mono (fun a b hab => tups _ _ hab) pr
          obtain ⟨a1, a2, a3⟩ := pairs_add (n := ys[i]) (v := .str z) hDA prA h1
          refine ⟨_, ((Same.refl HA).new h1) _ _ hDA, lt_line' ?_, ps ++ [p1], ws ++ [(ys[i], z)], a1, ?_, ?_, fun w hw' => ?_, ?_, (e3A.new h1).mut hD, ((dA.new h1).mut neD)⟩
          · rw [List.length_map]
            omega
          · rw [List.map_append]
            exact a2
          · rw [List.map_append, ew, take_next (List.getElem?_eq_getElem io)]
            rfl
          · rcases List.mem_append.mp hw' with h | h
            · exact hw _ h
            · rw [List.mem_singleton.mp h]
              exact wz
          · exact (upd_ne (ne_of_none hpa2 hD)).trans (((Same.refl HA).new h1) _ _ (eA _ _ npd (sl _ _ hpa3)))
        · obtain ⟨ps, ws, hD1, pr, ew, hw, hpa3, e3, d3⟩ := hP
          rw [List.length_map, List.take_length] at ew
          refine ⟨D, ps, _, rfl, SqL.of hD1, Paired.mono (fun (a : Addr) (b : Key × V) (hab : H' a = some (.tup [kV b.1, b.2])) => SqT.of hab) pr, fun dn hdn => ?_⟩
          rw [mergeK_app _ [] (by
            rw [List.nil_append, List.map_map, show ((fun (p : Key × V) => p.1) ∘ fun (p : Str × Str) => ((Sum.inr p.1 : Key), V.str p.2)) = (fun (n : Str) => (Sum.inr n : Key)) ∘ (·.1) from rfl, ← List.map_map, ew]
            exact nodup_inr nda), List.nil_append]
          exact q' _ _ ⟨dn, ws, rfl, upd_same, ew, hw, e3.new hdn, d3.new hdn, d3.ne hdn, ne_of_none (e3 _ _ ld hl2) hdn⟩
      rintro v H3 ⟨dn, ws, rfl, hN, ew, hw, e3, d3, ndd, ldn⟩
      have hl3 := e3 _ _ ld hl2
      have hQ3 := hQ2.held (e3.held d2)
      have hL3 := hL2.heldD (e3.heldD d2)
      have e03 := e02.trans e3
      have lookg : ∀ e ∈ L, ∀ a ∈ e.2.places, look ws a = some ((look ws a).getD Str.empty) ∧ Wd ((look ws a).getD Str.empty) := fun e he a ha => by
        have inY : a ∈ ws.map (·.1) := by rw [ew]; exact (mema a).mpr ⟨e, he, ha⟩
        obtain ⟨z, hz, wz⟩ := look_of (W := Wd) hw inY
        rw [hz]
        exact ⟨rfl, wz⟩
      obtain ⟨g, hg⟩ : ∃ g : Str → Str, ∀ a, g a = (look ws a).getD Str.empty := ⟨fun a => (look ws a).getD Str.empty, fun _ => rfl⟩
      have lookg : ∀ e ∈ L, ∀ a ∈ e.2.places, look ws a = some (g a) ∧ Wd (g a) := fun e he a ha => by
        rw [hg]
        exact lookg e he a ha
      have lws : ws.length = ys.length := by rw [← ew, List.length_map]
      have smR : Lib.Small5 (L.map fun e => (e.1, Ty.ren g e.2)) := by
        refine ⟨⟨fun e he => ?_, fun e he => ?_, by rw [List.length_map]; exact few, by rw [Lib.names, List.map_map]; exact sL.fine.nodup⟩, fun e he => ?_⟩
        · obtain ⟨y, hy, rfl⟩ := List.mem_map.mp he
          exact sL.fine.words y hy
        · obtain ⟨y, hy, rfl⟩ := List.mem_map.mp he
          exact fits_ren (sL.fine.fits y hy) fun a ha => (lookg y hy a ha).2
        · obtain ⟨y, hy, rfl⟩ := List.mem_map.mp he
          show (Ty.ren g y.2).places.length ≤ 5 ∧ (Ty.ren g y.2).order ≤ 2
          rw [Ty.places_ren, List.length_map, Ty.order_ren]
          exact sL.small y hy
      refine cut_set (fun v H' => ∃ da ks, v = .ref da ∧ H' da = some (.dK ks) ∧ IsQ H' (L.map fun e => (e.1, Ty.ren g e.2)) ks ∧ Same H3 H') (fun Q' q' => ?_) ?_
      · have ln := hQ3.len
        refine ⟨l, _, hl3, trivial, fun od => ?_⟩
        have hf : Held H3 (upd H3 l (.frz od (.dK kvs))) := held_dk hl3
        have hN' : IsN (upd H3 l (.frz od (.dK kvs))) dn ws := (upd_ne ldn.symm).trans hN
        refine ⟨.ref l, rfl, l, od, rfl, .inl ⟨kvs, upd_same, fun D hD => ?_⟩⟩
        refine lc_keys (fun i H' => ∃ (ps : List Addr) (ks : List (Key × V)), H' D = some (.lst (ps.map V.ref)) ∧ Paired (fun p kv => H' p = some (.tup [kV kv.1, kv.2])) ps ks ∧ IsQ H' ((L.take i).map fun e => (e.1, Ty.ren g e.2)) ks ∧ Same (upd H3 l (.frz od (.dK kvs))) H') ?_ (fun i H' _ hP => ?_) (fun i k v H' hk hP => ?_) (fun H' hP => ?_)
        · exact ⟨[], [], upd_same, .nil, by rw [List.take_zero]; rfl, (Same.refl _).mut hD⟩
        · obtain ⟨_, _, _, _, _, s4⟩ := hP
          exact s4 _ _ upd_same
        · obtain ⟨ps, ks, hD1, pr, hp1, s4⟩ := hP
          obtain ⟨e, he, rfl, ht⟩ := hQ3.at_ hk
          have io := lt_of_get hk
          have em := List.mem_of_getElem? he
          have kl := hp1.len
          rw [List.length_map, List.length_take] at kl
          have pl := Paired.length pr
          have sm := sL.small _ em
          have gl : DGet H' l (.str e.1) (some v) := .inl ⟨kvs, Sum.inr e.1, .inr ⟨od, s4 _ _ upd_same⟩, rfl, (val_at ndK hk).symm⟩
          refine ⟨rfl, tyes ?_⟩
          refine ⟨.str e.1, rfl, .ref l, rfl, .str e.1, rfl, l, v, rfl, gl, .ref dn, rfl, v, e.2, dn, ws, g, rfl, IsK.held (hf.trans s4.held) _ _ ht, s4 _ _ hN', fun a ha => (lookg e em a ha).1, Nat.lt_of_le_of_lt sm.2 (by decide), Nat.le_trans sm.1 (by decide), fun v' H5 s5 hv => ⟨t2, fun p1 h1 => ?_⟩⟩
          have hD5 := s5 _ _ hD1
          obtain ⟨a1, a2, a3⟩ := pairs_add (n := e.1) (v := v') hD5 (Paired.mono (fun a b hab => s5 _ _ hab) pr) h1
          refine ⟨_, ((Same.refl H5).new h1) _ _ hD5, lt_line' ?_, ps ++ [p1], ks ++ [(Sum.inr e.1, v')], a1, a2, ?_, ((s4.trans s5).new h1).mut hD⟩
          · rw [List.length_map]
            omega
          · rw [take_next he, List.map_append]
            exact ((hp1.held s5.held).held a3).app (e := (e.1, Ty.ren g e.2)) (IsK.held a3 _ _ hv)
        · obtain ⟨ps, ks, hD1, pr, hp1, s4⟩ := hP
          rw [ln, List.take_length] at hp1
          have kd' : H' l = some (.frz od (.dK kvs)) := s4 _ _ upd_same
          obtain ⟨f1, f2, f3⟩ := pairs_free (K := K) kd' hD1 pr
          refine ⟨kd', ?_⟩
          refine ⟨D, ps, ks, rfl, f1, f2, fun da hda => ?_⟩
          rw [mergeK_app ks [] (by rw [List.nil_append]; exact names_keys smR.fine.nodup hp1.keys), List.nil_append]
          have s6 := (Same.refl (upd H' l (.dK kvs))).new (o := .dK ks) hda
          have s5 := same_unlock hl3 s4
          exact q' _ _ ⟨da, ks, rfl, upd_same, (hp1.held f3).held s6.held, s5.trans s6⟩
      rintro v H4 ⟨da, ks, rfl, hda, hQa, s4⟩
      have hx4 := hL3.same s4
      obtain ⟨xa, dxa, pxa, qxa, rxa, ex, hxx⟩ := isL_ins hx4
      cases ex
      refine ⟨.ref x, rfl, x, dxa, _, rfl, hxx, rfl, .ref dn, rfl, .ref x, dn, ws, g, L1, rfl, hx4, fine1, fun e he => Nat.le_trans (sL.small e (pm1.mem_iff.mp he)).1 (by decide), s4 _ _ hN, fun zs nz mz => ?_, fun e he => lookg e (pm1.mem_iff.mp he), fun N x2 H5 pmN soN s5 hx5 => ?_⟩
      · rw [lws]
        refine ((List.perm_ext_iff_of_nodup nda nz).mpr fun a => (mema a).trans (Iff.trans ?_ (mz a).symm)).length_eq
        exact ⟨fun ⟨e, he, ha⟩ => ⟨e, pm1.mem_iff.mpr he, ha⟩, fun ⟨e, he, ha⟩ => ⟨e, pm1.mem_iff.mp he, ha⟩⟩
      refine ⟨.ref da, rfl, t2, fun p hp => ?_⟩
      have s45 := s4.trans s5
      have s5p := s5.new (o := .lst [.ref x2, .ref da]) hp
      have sp := (Same.refl H5).new (o := .lst [.ref x2, .ref da]) hp
      refine q p (.ref x2) da ks (L.map fun e => (e.1, Ty.ren g e.2)) _ ((e03.trans (Ext.same s45)).new hp) ((d3.same s45).new hp) ((d3.same s45).ne hp) upd_same (s5p _ _ hda) (hQa.held s5p.held) (.inl ⟨by rw [List.length_map]; exact few, smR, N, pmN.trans (pm1.map _), soN, hx5.same sp⟩)
    · -- other names
      refine nx_go ?_
      dsimp only
      have nine : (nineW.map V.str).length = 9 := rfl
      refine cut_set (fun v H' => ∃ pw ms, v = .ref pw ∧ H' pw = some (.lst ((ms : List Str).map V.str)) ∧ ms.length = L.length ∧ ms.Nodup ∧ (∀ m ∈ ms, Wd m) ∧ Ext d H2 H' ∧ IsDice H' d ∧ pw ≠ d) (fun Q' q' => ?_) ?_
      · refine ⟨.ref d, rfl, by show 9 ≤ sizeLine; decide, fun pl hpl => ⟨.ref l, rfl, l, kvs, rfl, ((Same.refl H2).new hpl) _ _ hl2, ?_⟩⟩
        have s4 := (Same.refl H2).new (o := .lst (nineW.map V.str)) hpl
        refine ⟨d, pl, nineW.map V.str, L.length, by rw [hQ2.len]; rfl, d2.same s4, SqL.of upd_same, d2.ne hpl, by rw [nine]; decide, by rw [nine]; omega, fun p2 ys2 left H3 pm ly np2 pd2 hp2 e3 d3 => ?_⟩
        obtain ⟨ms, rfl, hms⟩ := mem_texts (ps := ys2) (m := nineW) fun y hy => pm.mem_iff.mp (List.mem_append_left _ hy)
        rw [List.length_map] at ly
        have nd9 : (nineW.map V.str).Nodup := List.pairwise_map.mpr (List.Pairwise.imp (fun a b => a (V.str.inj b)) (show nineW.Nodup by decide +kernel))
        have msn : ms.Nodup := by
          have h1 := (List.nodup_append.mp (pm.nodup_iff.mpr nd9)).1
          exact List.Pairwise.imp (fun a b => a (congrArg V.str b)) (List.pairwise_map.mp h1)
        exact q' _ _ ⟨p2, ms, rfl, hp2, ly, msn, fun m hm => nine_wd m (hms m hm), (Ext.same s4).trans e3, d3, pd2⟩
      rintro v H3 ⟨pw, ms, rfl, hpw, lms, msn, hmw, e3, d3, npw⟩
      have hl3 := e3 _ _ ld hl2
      have hQ3 := hQ2.held (e3.held d2)
      have hL3 := hL2.heldD (e3.heldD d2)
      have e03 := e02.trans e3
      clear hl2 hQ2 hL2 e02 e3 d2 hpa2
      refine cut_set (fun v H' => ∃ dn ns, v = .ref dn ∧ List.Perm ns L.names ∧ IsN H' dn (ns.zip ms) ∧ Same H3 H' ∧ l ≠ dn) (fun Q' q' => ?_) ?_
      · refine ⟨.ref l, rfl, l, kvs, L.names, rfl, .inl hl3, hQ3.keys, by rw [Lib.names, List.length_map]; omega, fun ns p pn sn hp => ?_⟩
        have s4 := (Same.refl H3).new (o := .lst (ns.map V.str)) hp
        have ln : ns.length = L.length := by rw [pn.length_eq, Lib.names, List.length_map]
        refine ⟨.ref pw, rfl, ?_⟩
        refine ⟨p, pw, ns.map V.str, ms.map V.str, rfl, SqL.of upd_same, SqL.of (s4 _ _ hpw), by rw [List.length_map, List.length_map]; omega, by rw [List.length_map]; omega, fun lz ps HZ sZ hlz lps tup => ?_⟩
        rw [List.length_map] at lps
        refine ⟨lz, ps, (ns.zip ms).map kvOf, rfl, SqL.of hlz, paired_zip lps (by omega) tup, fun p3 np3 => ?_⟩
        have em : mergeK [] ((ns.zip ms).map kvOf) = (ns.zip ms).map kvOf := merge_new (ns.zip ms) [] (by rw [List.nil_append, List.map_fst_zip (by omega)]; exact pn.nodup_iff.mpr sL.fine.nodup)
        rw [em]
        exact q' _ _ ⟨p3, ns, rfl, pn, upd_same, (s4.trans sZ).new np3, ne_of_none (sZ _ _ (s4 _ _ hl3)) np3⟩
      rintro v H4 ⟨dn, ns, rfl, pn, hN, s4, ldn⟩
      have nsn : ns.Nodup := pn.nodup_iff.mpr sL.fine.nodup
      have ln : ns.length = L.length := by rw [pn.length_eq, Lib.names, List.length_map]
      have lmn : ms.length = ns.length := by omega
      have hl4 := s4 _ _ hl3
      have hQ4 := hQ3.held s4.held
      have hL4 := hL3.same s4
      have d4 := d3.same s4
      have e04 := e03.trans (Ext.same s4)
      clear hl3 hQ3 hL3 d3 e03 s4 hpw
      -- and back
      refine cut_set (fun v H' => ∃ db, v = .ref db ∧ IsN H' db (ms.zip ns) ∧ Same H4 H') (fun Q' q' => ?_) ?_
      · have lz : (ns.zip ms).length = ns.length := by rw [List.length_zip]; omega
        refine ⟨dn, _, hN, trivial, fun od => ?_⟩
        refine ⟨.ref dn, rfl, dn, od, rfl, .inl ⟨_, upd_same, fun D hD => ?_⟩⟩
        refine lc_keys (fun i H' => ∃ (ps : List Addr), H' D = some (.lst (ps.map V.ref)) ∧ Paired (fun p kv => H' p = some (.tup [kV kv.1, kv.2])) ps (((ms.zip ns).take i).map kvOf) ∧ Same (upd H4 dn (.frz od (.dK ((ns.zip ms).map kvOf)))) H') ?_ (fun i H' _ hP => ?_) (fun i k v H' hk hP => ?_) (fun H' hP => ?_)
        · exact ⟨[], upd_same, by rw [List.take_zero]; exact .nil, (Same.refl _).mut hD⟩
        · obtain ⟨_, _, _, s4⟩ := hP
          exact s4 _ _ upd_same
        · obtain ⟨ps, hD1, pr, s4⟩ := hP
          have io := lt_of_get hk
          rw [List.length_map, lz] at io
          have i2 : i < ms.length := by omega
          have e1 : (ns.zip ms)[i]? = some (ns[i], ms[i]) := by rw [List.getElem?_zip_eq_some]; exact ⟨List.getElem?_eq_getElem io, List.getElem?_eq_getElem i2⟩
          have e2 : (ms.zip ns)[i]? = some (ms[i], ns[i]) := by rw [List.getElem?_zip_eq_some]; exact ⟨List.getElem?_eq_getElem i2, List.getElem?_eq_getElem io⟩
          have hk' : ((ns.zip ms).map kvOf)[i]? = some (k, v) := hk
          rw [List.getElem?_map, e1] at hk'
          cases hk'
          have pl := Paired.length pr
          rw [List.length_map, List.length_take] at pl
          have lk : look (ns.zip ms) ns[i] = some ms[i] := (renOf_at nsn (List.getElem?_eq_getElem io) (List.getElem?_eq_getElem i2)).1
          have g : DGet H' dn (.str ns[i]) (some (.str ms[i])) := .inl ⟨_, Sum.inr ns[i], .inr ⟨od, s4 _ _ upd_same⟩, rfl, by
            have z := valV_look ns[i] (ns.zip ms)
            rw [lk] at z
            exact z.symm⟩
          refine ⟨rfl, tyes ?_⟩
          refine ⟨.ref dn, rfl, .str ns[i], rfl, dn, .str ms[i], rfl, g, .str ns[i], rfl, t2, fun p1 h1 => ?_⟩
          obtain ⟨a1, a2, a3⟩ := pairs_add (n := ms[i]) (v := .str ns[i]) hD1 pr h1
          refine ⟨_, ((Same.refl H').new h1) _ _ hD1, lt_line' ?_, ps ++ [p1], a1, ?_, (s4.new h1).mut hD⟩
          · rw [List.length_map]
            omega
          · rw [take_next e2, List.map_append]
            exact a2
        · obtain ⟨ps, hD1, pr, s4⟩ := hP
          have kd' : H' dn = some (.frz od (.dK ((ns.zip ms).map kvOf))) := s4 _ _ upd_same
          rw [List.length_map, show (ns.zip ms).length = (ms.zip ns).length by rw [List.length_zip, List.length_zip]; omega, List.take_length] at pr
          obtain ⟨f1, f2, f3⟩ := pairs_free (K := K) kd' hD1 pr
          refine ⟨kd', ?_⟩
          refine ⟨D, ps, (ms.zip ns).map kvOf, rfl, f1, f2, fun db hdb => ?_⟩
          have em : mergeK [] ((ms.zip ns).map kvOf) = (ms.zip ns).map kvOf := merge_new (ms.zip ns) [] (by rw [List.nil_append, List.map_fst_zip (by omega)]; exact msn)
          rw [em]
          have s5 := same_unlock hN s4
          exact q' _ _ ⟨db, rfl, upd_same, s5.new hdb⟩
      rintro v H5 ⟨db, rfl, hB, s5⟩
      -- the package's
      have fwd : ∀ n ∈ L.names, look (ns.zip ms) n = some (renOf ns ms n) ∧ Wd (renOf ns ms n) := fun n hn => by
        obtain ⟨h1, h2⟩ := renOf_in nsn lmn (pn.mem_iff.mpr hn)
        exact ⟨h1, hmw _ h2⟩
      have inj : ∀ n ∈ L.names, ∀ m ∈ L.names, renOf ns ms n = renOf ns ms m → n = m := fun n hn m hm e => renOf_inj nsn msn lmn (pn.mem_iff.mpr hn) (pn.mem_iff.mpr hm) e
      have in1 : ∀ n, n ∈ Lib.names L1 ↔ n ∈ L.names := fun n => names_perm pm1
      have hL5 := hL4.same s5
      obtain ⟨xa, dxa, pxa, qxa, rxa, ex, hxx⟩ := isL_ins hL5
      cases ex
      refine cut_set (fun v H' => ∃ x2 N, v = .ref x2 ∧ List.Perm N (Lib.renK (renOf ns ms) L1) ∧ sortedS (Lib.names N) = true ∧ IsL C_Type C_Library H' N (.ref x2) ∧ Same H5 H') (fun Q' q' => ?_) ?_
      · refine ⟨.ref x, rfl, x, dxa, _, rfl, hxx, rfl, .ref dn, rfl, .ref x, dn, ns.zip ms, renOf ns ms, L1, rfl, hL5, fine1, s5 _ _ hN, ?_, ?_, fun n hn => fwd n ((in1 n).mp hn), fun n hn m hm => inj n ((in1 n).mp hn) m ((in1 m).mp hm), fun N x2 H6 pmN soN s6 hx6 => q' _ _ ⟨x2, N, rfl, pmN, soN, hx6, s6⟩⟩
        · have := pm1.length_eq
          rw [List.length_zip]
          omega
        · rw [List.map_snd_zip (by omega)]
          exact msn
      rintro v H6 ⟨x2, N, rfl, pmN, soN, hx6, s6⟩
      have s46 := s5.trans s6
      have hl6 := s46 _ _ hl4
      have hQ6 := hQ4.held s46.held
      have hN6 := s46 _ _ hN
      have fK := Lib.renK_fine sL.fine (fun n hn => (fwd n hn).2) inj
      have smK : Lib.Small5 (Lib.renK (renOf ns ms) L) := ⟨fK, fun e he => by
        obtain ⟨y, hy, rfl⟩ := List.mem_map.mp he
        exact sL.small y hy⟩
      refine cut_set (fun v H' => ∃ da ks, v = .ref da ∧ H' da = some (.dK ks) ∧ IsQ H' (Lib.renK (renOf ns ms) L) ks ∧ Same H6 H') (fun Q' q' => ?_) ?_
      · have lq := hQ6.len
        refine ⟨l, _, hl6, trivial, fun od => ?_⟩
        have hf : Held H6 (upd H6 l (.frz od (.dK kvs))) := held_dk hl6
        have hN' : upd H6 l (.frz od (.dK kvs)) dn = some (.dK ((ns.zip ms).map kvOf)) := (upd_ne ldn.symm).trans hN6
        refine ⟨.ref l, rfl, l, od, rfl, .inl ⟨kvs, upd_same, fun D hD => ?_⟩⟩
        refine lc_keys (fun i H' => ∃ (ps : List Addr) (ks : List (Key × V)), H' D = some (.lst (ps.map V.ref)) ∧ Paired (fun p kv => H' p = some (.tup [kV kv.1, kv.2])) ps ks ∧ IsQ H' (Lib.renK (renOf ns ms) (L.take i)) ks ∧ Same (upd H6 l (.frz od (.dK kvs))) H') ?_ (fun i H' _ hP => ?_) (fun i k v H' hk hP => ?_) (fun H' hP => ?_)
        · exact ⟨[], [], upd_same, .nil, by rw [List.take_zero]; rfl, (Same.refl _).mut hD⟩
        · obtain ⟨_, _, _, _, _, s4⟩ := hP
          exact s4 _ _ upd_same
        · obtain ⟨ps, ks, hD1, pr, hp1, s4⟩ := hP
          obtain ⟨e, he, rfl, ht⟩ := hQ6.at_ hk
          have io := lt_of_get hk
          have em := List.mem_of_getElem? he
          have kl := hp1.len
          rw [Lib.renK, List.length_map, List.length_take] at kl
          have pl := Paired.length pr
          have gl : DGet H' l (.str e.1) (some v) := .inl ⟨kvs, Sum.inr e.1, .inr ⟨od, s4 _ _ upd_same⟩, rfl, (val_at ndK hk).symm⟩
          have gn : DGet H' dn (.str e.1) (some (.str (renOf ns ms e.1))) := .inl ⟨_, Sum.inr e.1, .inl (s4 _ _ hN'), rfl, by
            have z := valV_look e.1 (ns.zip ms)
            rw [(fwd e.1 (List.mem_map_of_mem em)).1] at z
            exact z.symm⟩
          refine ⟨rfl, tyes ?_⟩
          refine ⟨.ref dn, rfl, .str e.1, rfl, dn, _, rfl, gn, .ref l, rfl, .str e.1, rfl, l, v, rfl, gl, t2, fun p1 h1 => ?_⟩
          obtain ⟨a1, a2, a3⟩ := pairs_add (n := renOf ns ms e.1) (v := v) hD1 pr h1
          refine ⟨_, ((Same.refl H').new h1) _ _ hD1, lt_line' ?_, ps ++ [p1], ks ++ [(Sum.inr (renOf ns ms e.1), v)], a1, a2, ?_, (s4.new h1).mut hD⟩
          · rw [List.length_map]
            omega
          · rw [take_next he, Lib.renK, List.map_append]
            exact (hp1.held a3).app (e := (renOf ns ms e.1, e.2)) (IsK.held a3 _ _ (IsK.held (hf.trans s4.held) _ _ ht))
        · obtain ⟨ps, ks, hD1, pr, hp1, s4⟩ := hP
          rw [lq, List.take_length] at hp1
          have kd' : H' l = some (.frz od (.dK kvs)) := s4 _ _ upd_same
          obtain ⟨f1, f2, f3⟩ := pairs_free (K := K) kd' hD1 pr
          refine ⟨kd', ?_⟩
          refine ⟨D, ps, ks, rfl, f1, f2, fun da hda => ?_⟩
          rw [mergeK_app ks [] (by rw [List.nil_append]; exact names_keys fK.nodup hp1.keys), List.nil_append]
          have s7 := (Same.refl (upd H' l (.dK kvs))).new (o := .dK ks) hda
          have s8 := same_unlock hl6 s4
          exact q' _ _ ⟨da, ks, rfl, upd_same, (hp1.held f3).held s7.held, s8.trans s7⟩
      rintro v H7 ⟨da, ks, rfl, hda, hQa, s7⟩
      -- and the first library again
      have s57 := s6.trans s7
      have hx7 := hx6.same s7
      have fineN : Lib.Fine N := by
        refine Lib.Fine.perm (Lib.renK_fine fine1 (fun n hn => (fwd n ((in1 n).mp hn)).2) fun n hn m hm => inj n ((in1 n).mp hn) m ((in1 m).mp hm)) pmN
      have inN : ∀ m ∈ Lib.names N, ∃ n ∈ L.names, m = renOf ns ms n := fun m hm => by
        have h1 := (names_perm pmN).mp hm
        rw [Lib.renK_names] at h1
        obtain ⟨n, hn, rfl⟩ := List.mem_map.mp h1
        exact ⟨n, (in1 n).mp hn, rfl⟩
      have bk : ∀ n ∈ L.names, renOf ms ns (renOf ns ms n) = n := fun n hn => by
        obtain ⟨i, hi⟩ := List.getElem?_of_mem (pn.mem_iff.mpr hn)
        have io := lt_of_get hi
        have hm : ms[i]? = some ms[i] := List.getElem?_eq_getElem (by omega)
        rw [(renOf_at nsn hi hm).2, (renOf_at msn hm hi).2]
      obtain ⟨xb, dxb, pxb, qxb, rxb, ex, hxb⟩ := isL_ins hx7
      cases ex
      refine ⟨.ref x2, rfl, x2, dxb, _, rfl, hxb, rfl, .ref db, rfl, .ref x2, db, ms.zip ns, renOf ms ns, N, rfl, hx7, fineN, s57 _ _ hB, ?_, ?_, fun m hm => ?_, fun m hm m' hm' e => ?_, fun N2 x3 H8 pm3 so3 s8 hx8 => ?_⟩
      · have h1 := pm1.length_eq
        have h2 := pmN.length_eq
        rw [Lib.renK, List.length_map] at h2
        rw [List.length_zip]
        omega
      · rw [List.map_snd_zip (by omega)]
        exact nsn
      · obtain ⟨n, hn, rfl⟩ := inN m hm
        have h2 := (renOf_in nsn lmn (pn.mem_iff.mpr hn)).2
        obtain ⟨h3, h4⟩ := renOf_in (ns := ms) (ms := ns) msn lmn.symm h2
        refine ⟨h3, ?_⟩
        rw [bk n hn]
        obtain ⟨e, he, rfl⟩ := List.mem_map.mp hn
        exact sL.fine.words e he
      · obtain ⟨n, hn, rfl⟩ := inN m hm
        obtain ⟨n', hn', rfl⟩ := inN m' hm'
        rw [bk n hn, bk n' hn'] at e
        rw [e]
      have e1 : Lib.renK (renOf ms ns) (Lib.renK (renOf ns ms) L1) = L1 := by
        rw [Lib.renK, Lib.renK, List.map_map]
        refine (List.map_congr_left fun e he => ?_).trans (List.map_id L1)
        show (renOf ms ns (renOf ns ms e.1), e.2) = e
        rw [bk e.1 ((in1 e.1).mp (List.mem_map_of_mem he))]
      have pm3' : List.Perm N2 L1 := by
        have := pmN.map fun e : Str × Ty => (renOf ms ns e.1, e.2)
        exact pm3.trans (this.trans (by rw [show List.map (fun e : Str × Ty => (renOf ms ns e.1, e.2)) (Lib.renK (renOf ns ms) L1) = L1 from e1]))
      rw [lib_sorted fine1.nodup (List.Perm.refl L1) so1 pm3' so3] at hx8
      have hL8 := hL5.same (s57.trans s8)
      refine ⟨.ref x, rfl, eqL fine1 hx8 hL8 ⟨true, rfl, ?_⟩⟩
      refine iteT ?_
      refine ⟨.ref x2, rfl, .ref da, rfl, t2, fun p hp => ?_⟩
      have s8p := s8.new (o := .lst [.ref x2, .ref da]) hp
      refine q p (.ref x2) da ks (Lib.renK (renOf ns ms) L) _ ((e04.trans (Ext.same ((s5.trans s57).trans s8))).new hp) ((d4.same ((s5.trans s57).trans s8)).new hp) ((d4.same ((s5.trans s57).trans s8)).ne hp) upd_same (s8p _ _ hda) (hQa.held s8p.held) (.inl ⟨fK.few, smK, N, pmN.trans (pm1.map _), soN, hx7.same s8p⟩)
end


end My
namespace My
open PySem PySem.Spec PyProof.Rows L2 TL
set_option pp.maxSteps 400
set_option pp.deepTerms false
set_option pp.maxSteps 6000
/-! ### a drawn step -/
theorem passE0 {X : Cx} : Passes (L2.CX X.prog X.w) X E0 := fun _ _ _ _ _ _ _ c => by
  obtain ⟨_, _, _, _, _, _, _, _, _, _, _, _, no⟩ := c
  exact no.elim
def sp__law_stepT (K : PySem.W.Frag) (C D PT : Addr) : Sp := fun vs H Q _ => ∃ d l kvs v, ∃ L L1 : Lib, vs = [.ref d, .ref l, v] ∧ IsDice H d ∧ LamX.Tabs [(PT, lamQ)] H ∧ H l = some (.dK kvs) ∧ IsQ H L kvs ∧ L.Small5 ∧ List.Perm L1 L ∧ sortedS L1.names = true ∧ IsL C D H L1 v ∧
  ∀ p u l' kvs' M H', ExtL d H H' → IsDice H' d → LamX.Tabs [(PT, lamQ)] H' → p ≠ d → H' p = some (.lst [u, .ref l']) → H' l' = some (.dK kvs') → IsQ H' M kvs' → StepR C D H' M u → Q (.ref p) H'
/-- what stands while a step is drawn -/
structure StepG (C D d l PT : Addr) (kvs : List (Key × V)) (L L1 : Lib) (x : V) (H0 H : Hp) : Prop where
  hl : H l = some (.dK kvs)
  hQ : IsQ H L kvs
  hL : IsL C D H L1 x
  dice : IsDice H d
  tabs : LamX.Tabs [(PT, lamQ)] H
  far : ExtL d H0 H
theorem heldL {d : Addr} {H H' : Hp} (e : ExtL d H H') (D : IsDice H d) : HeldD H H' := fun b o hb f => by
  refine e b o (fun z => ?_) (fun ps z => ?_) hb
  · obtain ⟨x, y, u, hd⟩ := D
    rw [z, hd] at hb
    cases hb
    exact f
  · rw [z] at f
    exact f
theorem StepG.go {C D d l PT : Addr} {kvs : List (Key × V)} {L L1 : Lib} {x : V} {H0 H H' : Hp} (g : StepG C D d l PT kvs L L1 x H0 H) (e : ExtL d H H') (Dd : IsDice H' d) (T : LamX.Tabs [(PT, lamQ)] H') : StepG C D d l PT kvs L L1 x H0 H' := by
  have h := heldL e g.dice
  exact ⟨h _ _ g.hl trivial, g.hQ.held h.held, g.hL.heldD h, Dd, T, g.far.trans e⟩
theorem StepG.same {C D d l PT : Addr} {kvs : List (Key × V)} {L L1 : Lib} {x : V} {H0 H H' : Hp} (g : StepG C D d l PT kvs L L1 x H0 H) (s : Same H H') : StepG C D d l PT kvs L L1 x H0 H' := g.go (.same s) (g.dice.same s) (g.tabs.ext s)
theorem StepG.extN {C D d l PT : Addr} {kvs : List (Key × V)} {L L1 : Lib} {x : V} {H0 H H' : Hp} (g : StepG C D d l PT kvs L L1 x H0 H) (e : LamX.ExtN H H') (T : LamX.Tabs [(PT, lamQ)] H') : StepG C D d l PT kvs L L1 x H0 H' := g.go (.extN e) (g.dice.extN e) T
theorem StepG.ext {C D d l PT : Addr} {kvs : List (Key × V)} {L L1 : Lib} {x : V} {H0 H H' : Hp} (g : StepG C D d l PT kvs L L1 x H0 H) (e : Ext d H H') (Dd : IsDice H' d) : StepG C D d l PT kvs L L1 x H0 H' := g.go (.of e) Dd (tabs_ext g.tabs g.dice e)
theorem cut_t {c : TT} {t u : TS} {D : Ends} {σ : L2.St} {H : Hp} (PB : Bool → Hp → Prop) (h : ∀ Q' : Bool → Hp → Prop, (∀ b H', PB b H' → Q' b H') → c σ H Q') (k : ∀ b H', PB b H' → if b = true then t D σ H' else u D σ H') : tIfS c t u D σ H := h _ k
theorem StepR.same {C D : Addr} {H H' : Hp} (s : Same H H') {M : Lib} {v : V} (h : StepR C D H M v) : StepR C D H' M v := by
  rcases h with ⟨a, b, N, c, d, e⟩ | h
  · exact .inl ⟨a, b, N, c, d, e.same s⟩
  · exact .inr h
def nineV : List Str := ["f", "g", "p", "q", "r", "s", "t", "u", "v"]
theorem nineV_wd : ∀ x ∈ nineV, Wd x := fun x hx => by
  have h : nineV.all wdB = true := by decide +kernel
  exact wdB_wd (List.all_eq_true.mp h x hx)
theorem abc_wd3 : ∀ x ∈ (["a", "b", "c"] : List Str), Wd x := fun x hx => by
  have h : (["a", "b", "c"] : List Str).all wdB = true := by decide +kernel
  exact wdB_wd (List.all_eq_true.mp h x hx)
theorem Lib.putL_perm {L L1 : Lib} (pm : List.Perm L1 L) (nd : L.names.Nodup) (e : Str × Ty) : List.Perm (Lib.putL L1 e) (Lib.putL L e) := by
  have nd1 : Lib.names L1 |>.Nodup := ((pm.map (fun e : Str × Ty => e.1)).nodup_iff).mpr nd
  refine (List.perm_ext_iff_of_nodup (nodup_of_names (Lib.putL_nodup nd1 e)) (nodup_of_names (Lib.putL_nodup nd e))).mpr fun x => ?_
  rw [Lib.mem_putL, Lib.mem_putL, pm.mem_iff]
theorem Lib.putL_small5 {L : Lib} (s : L.Small5) {e : Str × Ty} (w : Wd e.1) (f : e.2.Fits) (sm : e.2.places.length ≤ 5 ∧ e.2.order ≤ 2) (l : (L.putL e).length ≤ 8) : (L.putL e).Small5 := by
  refine ⟨⟨fun x hx => ?_, fun x hx => ?_, l, Lib.putL_nodup s.fine.nodup e⟩, fun x hx => ?_⟩
  · rcases Lib.mem_putL.mp hx with rfl | ⟨h, _⟩
    · exact w
    · exact s.fine.words x h
  · rcases Lib.mem_putL.mp hx with rfl | ⟨h, _⟩
    · exact f
    · exact s.fine.fits x h
  · rcases Lib.mem_putL.mp hx with rfl | ⟨h, _⟩
    · exact sm
    · exact s.small x h
theorem Lib.pick_filter {L : Lib} (nd : L.names.Nodup) {so : List Str} (ns : so.Nodup) (sub : ∀ n ∈ so, n ∈ L.names) : List.Perm (L.pick so) (L.filter fun e => decide (e.1 ∈ so)) := by
  refine (List.perm_ext_iff_of_nodup (nodup_of_names (by rw [Lib.pick_names]; exact ns)) ((nodup_of_names nd).filter _)).mpr fun x => ?_
  rw [List.mem_filter, decide_eq_true_iff, Lib.pick, List.mem_map]
  constructor
  · rintro ⟨n, hn, rfl⟩
    obtain ⟨t, ht⟩ := Lib.get_in (sub n hn)
    rw [ht]
    exact ⟨Lib.get_some ht, hn⟩
  · rintro ⟨h1, h2⟩
    refine ⟨x.1, h2, ?_⟩
    rw [Lib.get_mem nd h1]
    rfl
theorem Lib.or_part {L N : Lib} (fL : L.Fine) (fN : N.Fine) (sub : ∀ e ∈ N, e ∈ L) : Lib.agree L N = true ∧ List.Perm (Lib.united L N) L := by
  refine ⟨(Lib.agree_iff fL).mpr fun e he _ => ⟨e.2, sub e he, rfl⟩, ?_⟩
  refine (List.perm_ext_iff_of_nodup (nodup_of_names (Lib.united_nodup fL.nodup fN.nodup)) (nodup_of_names fL.nodup)).mpr fun x => ?_
  rw [Lib.united, List.mem_append, List.mem_filter]
  constructor
  · rintro (⟨h, _⟩ | h)
    · exact h
    · exact sub x h
  · intro h
    by_cases c : x.1 ∈ Lib.names N
    · obtain ⟨y, hy, ey⟩ := List.mem_map.mp c
      have g1 := Lib.get_mem fL.nodup (sub y hy)
      rw [show y.1 = x.1 from ey, Lib.get_mem fL.nodup h] at g1
      have : y = x := Prod.ext ey (Option.some.inj g1).symm
      rw [← this]
      exact .inr hy
    · exact .inl ⟨h, by simpa using c⟩
section
variable {P : Program} {w : World} {K : PySem.W.Frag} {mg : Str → Option Value} {base : Heap} {C_Type C_Library C_InvalidLibrary C_InvalidOperation : Addr}
theorem ok__law_step (T : Txt K mg C_Type C_Library) (e_InvalidLibrary : ErrT K mg "InvalidLibrary" C_InvalidLibrary) (c__law_names_step : CalN P w K mg base "_law_names_step" 14 ["_law_dice_here", "_law_library_here", "_law_made_here"] (sp__law_names_step K C_Type C_Library)) (c__law_roll : CalN P w K mg base "_law_roll" 1 ["_law_dice_here", "_law_total"] (sp__law_roll K)) (c__law_some : CalN P w K mg base "_law_some" 2 ["_law_dice_here", "_law_items", "_law_size"] (sp__law_some2 K)) (c__law_pick : CalN P w K mg base "_law_pick" 2 ["_law_dice_here", "_law_items"] (sp__law_pick K)) (c__law_kind : CalN P w K mg base "_law_kind" 14 ["_law_dice_here", "_law_atoms", "_law_order", "_law_most"] (sp__law_kind K)) (m_Library_without : MetR P w K mg base C_Library "without" 5 (starSp 1 (sp_Library_without K C_Type C_Library))) (m_Library_only : MetR P w K mg base C_Library "only" 5 (starSp 1 (sp_Library_only K C_Type C_Library))) (c__law_made_kind : CalN P w K mg base "_law_made_kind" 12 ["_law_kind_here"] (sp__law_made_kind K C_Type)) (c__law_some4 : CalN P w K mg base "_law_some" 2 ["_law_dice_here", "_law_items", "_law_size"] (sp__law_some4 K))
    (m_Library___or__X : MetX P w K mg base C_Library "__or__" 5 ["self", "other"] (sp_Library_orX K C_Type C_Library C_InvalidOperation C_InvalidLibrary)) (m_Library_with_partX : MetX P w K mg base C_Library "with_part" 5 ["self", "name", "wanted"] (sp_Library_with_partX K C_Type C_Library C_InvalidLibrary))
    {g : Addr} {fdg : FuncData} (F__law_got : Fun K "_law_got" "_law_got" s__law_got g fdg) (M__law_got : mg "_law_got" = some (.ref g)) (B__law_got : L2.Binds K fdg ["_law_call"] [])
    {c PT : Addr} (TB : LamX.TabB base mg c PT) {f : Addr} {fd : FuncData} (F : Fun K "_law_step" "_law_step" s__law_step f fd) (hcd : fd.code = .ref c) : FnOk P w K mg base CX0 15 f fd ["_law_dice_here", "_law_library_here", "_law_made_here"] (sp__law_stepT K C_Type C_Library PT) := by
  have nd := sc__law_step.nd
  refine F.okC sc__law_step (fun vs H Q E h => ?_) (fun A outer s H vs Q E hr h => ?_)
  · obtain ⟨d, l, kvs, v, L, L1, rfl, _⟩ := h
    rfl
  · obtain ⟨d, l, kvs, v, L, L1, rfl, di, hT, hl, hQ, sL, pm1, so1, hL, q⟩ := h
    refine ⟨_, (pss_cons (ps_asg (pe_tup (pa_cons (pe_callN c__law_roll (hr.mono (by first | decide | omega)) rfl (pa_cons (pv 0) (pa_cons pe_int pa_nil))) (pa_cons (pe_callN c__law_some4 (hr.mono (by first | decide | omega)) rfl (pa_cons (pv 0) (pa_cons (pe_callB (call_sortedD rfl) (by rfl) T.b_sorted (by decide +kernel) (pa_cons (pv 1) pa_nil)) (pa_cons pe_int pa_nil)))) pa_nil))) (pg_tup (by rfl) (pgs_cons (pg_name (i := 3) nd rfl (.inl rfl)) (pgs_cons (pg_name (i := 4) nd rfl (.inr rfl)) pgs_nil))))
      (pss_cons (ps_if (PW.pt (pw_or (pt_cmpR op_eq (pv 3) pe_int (nomark _)) (pw_or1 (pt_cmpR (op_eqDI (Nat.lt_of_le_of_lt (Nat.le_add_right _ 64) hr.units)) (pv 1) pe_dnewK (nomark _))))) (pss_cons (ps_asg (pe_tup (pa_cons (pe_callN c__law_pick (hr.mono (by first | decide | omega)) rfl (pa_cons (pv 0) (pa_cons (pe_lst (pa_cons pe_str (pa_cons pe_str (pa_cons pe_str (pa_cons pe_str (pa_cons pe_str (pa_cons pe_str (pa_cons pe_str (pa_cons pe_str (pa_cons pe_str pa_nil)))))))))) pa_nil))) (pa_cons (pe_callN c__law_kind (hr.mono (by first | decide | omega)) rfl (pa_cons (pv 0) (pa_cons (pe_lst (pa_cons pe_str (pa_cons pe_str (pa_cons pe_str pa_nil)))) (pa_cons pe_int (pa_cons pe_int pa_nil))))) pa_nil))) (pg_tup (by rfl) (pgs_cons (pg_name (i := 5) nd rfl (.inr rfl)) (pgs_cons (pg_name (i := 6) nd rfl (.inr rfl)) pgs_nil))))
      (pss_cons (ps_set (i := 7) nd rfl (.inl rfl) (pe_callTy (call_dictP rfl) (by rfl) T.b_dict (by decide +kernel) (pa_cons (pe_op op_cat (LiI.pe_listItems rfl (pv 1) (by rfl) T.b_list (by decide +kernel)) (pe_lst (pa_cons (pe_tup (pa_cons (pv 5) (pa_cons (pv 6) pa_nil))) pa_nil))) pa_nil)))
      (pss_one (ps_ret (pe_lst (pa_cons (pe_got1 (k := 12) F__law_got M__law_got B__law_got e_InvalidLibrary.g TB hcd (hr.mono (by first | decide | omega)) (LamX.lamS_by (sc := defScope s__law_step) (by decide +kernel)) rfl (fun _ _ _ _ _ => rfl) (fun A outer s H E f c2 hr2 => (pe_methX m_Library_with_partX T.k_Library (hr2.mono (by first | decide | omega)) (passes_call (takes_of rfl rfl rfl rfl) fun _ _ _ _ h => h) (pv 2) (pa_cons (pv 5) (pa_cons (pe_callN c__law_made_kind (hr2.mono (by first | decide | omega)) rfl (pa_cons (pv 6) pa_nil)) pa_nil))))) (pa_cons (pv 7) pa_nil))))))) pss_nil)
      (pss_cons (ps_if (pt_cmpR op_eq (pv 3) pe_int (nomark _)) (pss_cons (ps_set (i := 7) nd rfl (.inl rfl) (pe_callTy (call_dictP rfl) (by rfl) T.b_dict (by decide +kernel) (pa_cons (pe_lock (pe_lcD (own := [("_law_name", 5)]) (by rfl) nd (pi_keys (pv 1)) (blkOk_by (own := [("_law_name", 5)]) (N := ["_law_dice_here", "_law_library_here", "_law_made_here", "_law_way", "_law_some_here", "_law_name", "_law_kind_here", "_law_after"]) (sc := (defScope s__law_step)) (by decide +kernel)) (fun _ _ _ _ _ => pg_name (i := 5) nd rfl (Or.inl rfl)) (fun _ _ _ _ _ => pts_one (pt_cmpR op_notIn_seq (pv 5) (pv 4) (by rfl))) (fun _ _ _ _ _ => (pe_tup (pa_cons (pv 5) (pa_cons (pe_dget (by first | exact Nat.lt_of_le_of_lt (Nat.add_le_add_left (by decide : 1 ≤ 64) _) hr.units | exact Nat.lt_of_le_of_lt (Nat.add_le_add_left (by decide : 4 ≤ 64) _) hr.units | exact Nat.lt_of_le_of_lt (Nat.add_le_add_left (by decide : 7 ≤ 64) _) hr.units) (pv 1) (pv 5) (fun _ _ => rfl)) pa_nil)))))) pa_nil)))
      (pss_one (ps_ret (pe_lst (pa_cons (pe_ifExp (pt_cmpR op_eq (pe_callB call_len (by rfl) T.b_len (by decide +kernel) (pa_cons (pv 4) pa_nil)) pe_int (nomark _)) (pe_methR m_Library_without T.k_Library (hr.mono (by first | decide | omega)) (pv 2) (pa_cons (pe_ix ix_list (pv 4) pe_int (fun _ _ => rfl)) pa_nil)) (pe_methR m_Library_without T.k_Library (hr.mono (by first | decide | omega)) (pv 2) (pa_cons (pe_ix ix_list (pv 4) pe_int (fun _ _ => rfl)) (pa_cons (pe_ix ix_list (pv 4) pe_int (fun _ _ => rfl)) pa_nil)))) (pa_cons (pv 7) pa_nil)))))) pss_nil)
      (pss_cons (ps_if (pt_cmpR op_eq (pv 3) pe_int (nomark _)) (pss_cons (ps_set (i := 7) nd rfl (.inl rfl) (pe_callTy (call_dictP rfl) (by rfl) T.b_dict (by decide +kernel) (pa_cons (pe_lcD (own := [("_law_name", 5)]) (by rfl) nd (pi_list (pv 4)) (blkOk_by (own := [("_law_name", 5)]) (N := ["_law_dice_here", "_law_library_here", "_law_made_here", "_law_way", "_law_some_here", "_law_name", "_law_kind_here", "_law_after"]) (sc := (defScope s__law_step)) (by decide +kernel)) (fun _ _ _ _ _ => pg_name (i := 5) nd rfl (Or.inl rfl)) (fun _ _ _ _ _ => pts_nil) (fun _ _ _ _ _ => (pe_tup (pa_cons (pv 5) (pa_cons (pe_dget (by first | exact Nat.lt_of_le_of_lt (Nat.add_le_add_left (by decide : 1 ≤ 64) _) hr.units | exact Nat.lt_of_le_of_lt (Nat.add_le_add_left (by decide : 4 ≤ 64) _) hr.units | exact Nat.lt_of_le_of_lt (Nat.add_le_add_left (by decide : 7 ≤ 64) _) hr.units) (pv 1) (pv 5) (fun _ _ => rfl)) pa_nil))))) pa_nil)))
      (pss_one (ps_ret (pe_lst (pa_cons (pe_ifExp (pt_cmpR op_eq (pe_callB call_len (by rfl) T.b_len (by decide +kernel) (pa_cons (pv 4) pa_nil)) pe_int (nomark _)) (pe_methR m_Library_only T.k_Library (hr.mono (by first | decide | omega)) (pv 2) (pa_cons (pe_ix ix_list (pv 4) pe_int (fun _ _ => rfl)) pa_nil)) (pe_methR m_Library_only T.k_Library (hr.mono (by first | decide | omega)) (pv 2) (pa_cons (pe_ix ix_list (pv 4) pe_int (fun _ _ => rfl)) (pa_cons (pe_ix ix_list (pv 4) pe_int (fun _ _ => rfl)) pa_nil)))) (pa_cons (pv 7) pa_nil)))))) pss_nil)
      (pss_cons (ps_if (PW.pt (pw_and (pt_cmpR op_eq (pv 3) pe_int (nomark _)) (pw_and1 (pt_cmpR op_lt (pe_callB call_lenD (by rfl) T.b_len (by decide +kernel) (pa_cons (pv 1) pa_nil)) pe_int (nomark _))))) (pss_one (ps_ret (pe_lst (pa_cons (pe_op (op_ownX (op := .BitOr) m_Library___or__X (hr.mono (by first | decide | omega)) T.x_Library.first passE0) (pv 2) (pe_methR m_Library_only T.k_Library (hr.mono (by first | decide | omega)) (pv 2) (pa_cons (pe_ix ix_list (pv 4) pe_int (fun _ _ => rfl)) pa_nil))) (pa_cons (pv 1) pa_nil))))) pss_nil)
      (pss_one (ps_ret (pe_callN c__law_names_step (hr.mono (by first | decide | omega)) rfl (pa_cons (pv 0) (pa_cons (pv 1) (pa_cons (pv 2) pa_nil))))))))))), ?_⟩
    have few := sL.fine.few
    have fine1 := sL.fine.perm pm1
    have t2 : 2 ≤ sizeLine := by decide
    have nl : L.names.length = L.length := List.length_map ..
    have ld : l ≠ d := fun z => by
      obtain ⟨_, _, _, e⟩ := id di
      rw [z, e] at hl
      cases hl
    have ndK : (kvs.map (·.1)).Nodup := names_keys sL.fine.nodup hQ.keys
    have g0 : StepG C_Type C_Library d l PT kvs L L1 v H H := ⟨hl, hQ, hL, di, hT, ExtL.refl H⟩
    obtain ⟨x, dx0, dp0, p00, q00, _, rfl, _⟩ := id hL
    clear hl hQ hL hT
    refine ⟨.ref d, rfl, d, 5, rfl, di, by decide, by decide, fun r H1 r0 r5 e1 d1 => ?_⟩
    have g1 := g0.ext e1 d1
    refine ⟨.ref d, rfl, .ref l, rfl, l, kvs, L.names, rfl, .inl g1.hl, g1.hQ.keys, by omega, fun ns p pn sn hp => ?_⟩
    have s2 := (Same.refl H1).new (o := .lst (ns.map V.str)) hp
    have g2 := g1.same s2
    refine ⟨d, p, ns.map V.str, 2, rfl, g2.dice, SqL.of upd_same, d1.ne hp, by rw [List.length_map, pn.length_eq, nl]; show _ < 1000000; omega, fun p5 ys left H3 pm ly np5 pd5 hp5 e3 d3 => ?_⟩
    have g3 := g2.ext e3 d3
    obtain ⟨so, rfl, hso⟩ := mem_texts (ps := ys) (m := ns) fun y hy => pm.mem_iff.mp (List.mem_append_left _ hy)
    rw [List.length_map, List.length_map, pn.length_eq, nl] at ly
    have nsn : ns.Nodup := pn.nodup_iff.mpr sL.fine.nodup
    have sond : so.Nodup := by
      have nd9 : (ns.map V.str).Nodup := List.pairwise_map.mpr (List.Pairwise.imp (fun a b => a (V.str.inj b)) nsn)
      have h1 := (List.nodup_append.mp (pm.nodup_iff.mpr nd9)).1
      exact List.Pairwise.imp (fun a b => a (congrArg V.str b)) (List.pairwise_map.mp h1)
    have inL : ∀ n ∈ so, n ∈ L.names := fun n hn => pn.mem_iff.mp (hso n hn)
    have inL1 : ∀ n ∈ so, n ∈ Lib.names L1 := fun n hn => (names_perm pm1).mpr (inL n hn)
    refine ⟨t2, fun pT hpT => ⟨pT, _, rfl, SqT.of upd_same, rfl, _, _, rfl, _, _, rfl, rfl, ?_⟩⟩
    have s4 := (Same.refl H3).new (o := .tup [V.int r, .ref p5]) hpT
    have g4 := g3.same s4
    have hso4 := s4 _ _ hp5
    generalize upd H3 pT (.tup [V.int r, .ref p5]) = H4 at g4 hso4
    clear g0 g1 g2 g3 s2 s4 e1 d1 hp pm np5 hp5 e3 d3 hpT
    dsimp only
    refine cut_t (fun b H' => Same H4 H' ∧ (b = false → L ≠ [])) (fun Q' q' => ?_) ?_
    · refine ⟨.int r, rfl, rfl, _, rfl, ite2 (fun c => ?_) (fun c => ?_)⟩
      · exact q' _ _ ⟨Same.refl _, fun z => nomatch z⟩
      · refine ⟨.ref l, rfl, fun dz hdz => ?_⟩
        have s5 := (Same.refl H4).new (o := .dK []) hdz
        refine ⟨l, dz, kvs, [], rfl, rfl, s5 _ _ g4.hl, upd_same, fun e p hp => ?_, _, rfl, q' _ _ ⟨s5, fun z w => ?_⟩⟩
        · rw [List.length_eq_zero_iff.mp e] at hp
          cases hp
        · have := g4.hQ.len
          rw [w] at this
          rw [List.length_eq_zero_iff.mp this] at z
          cases z
    rintro b H5 ⟨s5, bL⟩
    have g5 := g4.same s5
    have hso5 := s5 _ _ hso4
    cases b with
    | true =>
      simp only [if_true]
      refine ⟨.ref d, rfl, by show 9 ≤ sizeLine; decide, fun pl hpl => ?_⟩
      have g6 := g5.same ((Same.refl H5).new (o := .lst (nineV.map V.str)) hpl)
      refine ⟨d, pl, nineV.map V.str, rfl, g6.dice, SqL.of upd_same, g5.dice.ne hpl, (fun z => nomatch z), by show 9 < 1000000; decide, fun y H6 hy e6 d6 => ?_⟩
      have g7 := g6.ext e6 d6
      obtain ⟨n, hn, rfl⟩ := List.mem_map.mp hy
      have wn := nineV_wd n hn
      refine ⟨.ref d, rfl, by show 3 ≤ sizeLine; decide, fun la hla => ?_⟩
      have g8 := g7.same ((Same.refl H6).new (o := .lst ((["a", "b", "c"] : List Str).map V.str)) hla)
      refine ⟨d, la, ["a", "b", "c"], 2, 5, rfl, g8.dice, upd_same, g7.dice.ne hla, (fun z => nomatch z), by decide, by decide, by decide, by decide, by decide, fun kv t H8 hk ho hp5' hin e8 d8 => ?_⟩
      have g9 := g8.ext e8 d8
      have ft : t.Fits := kind_fits abc_wd3 hin (by omega) (by omega)
      refine ⟨t2, fun pT hpT => ⟨pT, _, rfl, SqT.of upd_same, rfl, _, _, rfl, _, _, rfl, rfl, ?_⟩⟩
      have sT := (Same.refl H8).new (o := .tup [V.str n, kv]) hpT
      have g10 := g9.same sT
      have hk10 := IsK.held sT.held _ _ hk
      generalize upd H8 pT (.tup [V.str n, kv]) = H9 at g10 hk10
      clear g6 g7 g8 g9 sT hk hpT e8 d8 e6 d6 hla hpl
      dsimp only
      have lk := g10.hQ.len
      refine cut_set (fun v H' => ∃ p6, v = .ref p6 ∧ H' p6 = some (.dK (putK kvs (Sum.inr n) kv)) ∧ Same H9 H') (fun Q' q' => ?_) ?_
      · refine ⟨.ref l, rfl, l, kvs, rfl, g10.hl, fun Ha pa ta sa npa nta pta hpa pra => ?_⟩
        have sa2 : Same H9 Ha := sa
        have lta := Paired.length pra
        refine ⟨.str n, rfl, kv, rfl, t2, fun p1 h1 => ⟨by show 1 ≤ sizeLine; decide, fun l2 h2 => ?_⟩⟩
        have n1 := (Same.refl Ha).new (o := .tup [V.str n, kv]) h1
        have n2 := n1.new (o := .lst [V.ref p1]) h2
        refine ⟨pa, l2, _, _, rfl, rfl, n2 _ _ hpa, upd_same, lt_line (by rw [List.length_map]; show _ + 1 ≤ _; omega), fun l3 h3 => ?_⟩
        have n3 := n2.new (o := .lst (ta.map V.ref ++ [V.ref p1])) h3
        have p13 := (((Same.refl _).new h2).new (o := .lst (ta.map V.ref ++ [V.ref p1])) h3) _ _ (upd_same (H := Ha) (a := p1) (o := .tup [V.str n, kv]))
        refine ⟨l3, ta ++ [p1], kvs ++ [(Sum.inr n, kv)], rfl, SqL.of (by rw [upd_same, List.map_append]; rfl), Paired.snoc (Paired.mono (fun (a : Addr) (b : Key × V) (hab : Ha a = some (.tup [kV b.1, b.2])) => SqT.of (n3 _ _ hab)) pra) (SqT.of p13), fun p6 h6 => ?_⟩
        have em : mergeK [] (kvs ++ [((Sum.inr n : Key), kv)]) = putK kvs (Sum.inr n) kv := by
          rw [mergeK_append, mergeK_app kvs [] (by rw [List.nil_append]; exact ndK), List.nil_append]
          rfl
        rw [em]
        exact q' _ _ ⟨p6, rfl, upd_same, (sa2.trans n3).new h6⟩
      rintro v Hb ⟨p6, rfl, hp6, s10⟩
      have g11 := g10.same s10
      have hk11 := IsK.held s10.held _ _ hk10
      have hQM : IsQ Hb (L.putL (n, t)) (putK kvs (Sum.inr n) kv) := IsQ.put (e := (n, t)) hk11 g11.hQ
      have pmP := Lib.putL_perm pm1 sL.fine.nodup (n, t)
      have lP := pmP.length_eq
      refine cut_e (te := LamX.tLam _ _ _) (fun u H' => StepR C_Type C_Library H' (L.putL (n, t)) u ∧ StepG C_Type C_Library d l PT kvs L L1 (.ref x) H H' ∧ H' p6 = some (.dK (putK kvs (Sum.inr n) kv)) ∧ IsQ H' (L.putL (n, t)) (putK kvs (Sum.inr n) kv)) (fun Q' k => ?_) ?_
      · refine ⟨g11.tabs, fun Ha eN Ta => ?_⟩
        have g12 := g11.extN eN Ta
        have hp12 := eN _ _ hp6 fun _ z => nomatch z
        have hq12 := hQM.held (extN_held eN)
        obtain ⟨xa, dx, px, qx, rx, ex, hx⟩ := isL_ins g12.hL
        cases ex
        refine ⟨.ref x, rfl, x, dx, _, rfl, hx, rfl, .str n, rfl, kv, rfl, kv, t, rfl, IsK.held (extN_held eN) _ _ hk11, Nat.lt_of_le_of_lt ho (by decide), ft, fun y Hc sc hy => ?_⟩
        have g13 := g12.same sc
        refine ⟨.ref x, n, .ref y, t, L1, rfl, g13.hL, hy, fine1, wn, ft, fun l8 N x2 Hd pmN soN sd hx2 => ?_, fun l8 Hd sd => ?_⟩
        · exact k _ _ ⟨.inl ⟨by omega, Lib.putL_small5 sL wn ft ⟨hp5', ho⟩ (by omega), N, pmN.trans pmP, soN, hx2⟩, g13.same sd, (sc.trans sd) _ _ hp12, hq12.held (sc.trans sd).held⟩
        · exact ⟨true, exm_self e_InvalidLibrary, fun _ => k _ _ ⟨.inr ⟨by omega, rfl⟩, g13.same sd, (sc.trans sd) _ _ hp12, hq12.held (sc.trans sd).held⟩, fun z => (nomatch z)⟩
      rintro u Hc ⟨res, g14, hp14, hq14⟩
      refine ⟨.ref p6, rfl, t2, fun p hp => ?_⟩
      have sp := (Same.refl Hc).new (o := .lst [u, .ref p6]) hp
      have g15 := g14.same sp
      exact q p u p6 _ (L.putL (n, t)) _ g15.far g15.dice g15.tabs (g14.dice.ne hp) upd_same (sp _ _ hp14) (hq14.held sp.held) (res.same sp)
    | false =>
      simp only [Bool.false_eq_true, if_false]
      have neL := bL rfl
      have l1 : 1 ≤ L.length := by
        cases L with
        | nil => exact absurd rfl neL
        | cons a b => exact Nat.succ_le_succ (Nat.zero_le _)
      refine nx_go ?_
      dsimp only
      refine ⟨.int r, rfl, rfl, _, rfl, ite2 (fun _ => ?_) (fun _ => ?_)⟩
      · -- without some
        have smM : Lib.Small5 (L.filter fun e => !decide (e.1 ∈ so)) := sL.filter _
        refine cut_set (fun v H' => ∃ da ks, v = .ref da ∧ H' da = some (.dK ks) ∧ IsQ H' (L.filter fun e => !decide (e.1 ∈ so)) ks ∧ Same H5 H') (fun Q' q' => ?_) ?_
        · have lq := g5.hQ.len
          refine ⟨l, _, g5.hl, trivial, fun od => ?_⟩
          have hf : Held H5 (upd H5 l (.frz od (.dK kvs))) := held_dk g5.hl
          have hs' : upd H5 l (.frz od (.dK kvs)) p5 = some (.lst (so.map V.str)) := (upd_ne (ne_of hso5 g5.hl (fun z => nomatch z))).trans hso5
          refine ⟨.ref l, rfl, l, od, rfl, .inl ⟨kvs, upd_same, fun D hD => ?_⟩⟩
          refine lc_keys (fun i H' => ∃ (ps : List Addr) (ks : List (Key × V)), H' D = some (.lst (ps.map V.ref)) ∧ Paired (fun p kv => H' p = some (.tup [kV kv.1, kv.2])) ps ks ∧ IsQ H' ((L.take i).filter fun e => !decide (e.1 ∈ so)) ks ∧ Same (upd H5 l (.frz od (.dK kvs))) H') ?_ (fun i H' _ hP => ?_) (fun i k v H' hk hP => ?_) (fun H' hP => ?_)
          · exact ⟨[], [], upd_same, .nil, by rw [List.take_zero]; rfl, (Same.refl _).mut hD⟩
          · obtain ⟨_, _, _, _, _, s4⟩ := hP
            exact s4 _ _ upd_same
          · obtain ⟨ps, ks, hD1, pr, hp1, s4⟩ := hP
            obtain ⟨e, he, rfl, ht⟩ := g5.hQ.at_ hk
            have io := lt_of_get hk
            have kl := hp1.len
            have fl := List.length_filter_le (fun e => !decide (e.1 ∈ so)) (L.take i)
            rw [List.length_take] at fl
            have pl := Paired.length pr
            have gl : DGet H' l (.str e.1) (some v) := .inl ⟨kvs, Sum.inr e.1, .inr ⟨od, s4 _ _ upd_same⟩, rfl, (val_at ndK hk).symm⟩
            refine ⟨rfl, ?_⟩
            refine ⟨.str e.1, rfl, .ref p5, rfl, p5, _, rfl, .inl (SqL.of (s4 _ _ hs')), rfl, flat_strs _, _, rfl, ?_⟩
            dsimp only
            rw [inV_strs]
            by_cases c : e.1 ∈ so
            · rw [decide_eq_true c]
              refine ite_no (by simp) ?_
              refine ⟨ps, ks, hD1, pr, ?_, s4⟩
              rw [take_next he, List.filter_append, List.filter_cons_of_neg (by simpa using c), List.filter_nil, List.append_nil]
              exact hp1
            · rw [decide_eq_false c]
              refine ite_to (by simp) ?_
              refine ⟨.str e.1, rfl, .ref l, rfl, .str e.1, rfl, l, v, rfl, gl, t2, fun p1 h1 => ?_⟩
              obtain ⟨a1, a2, a3⟩ := pairs_add (n := e.1) (v := v) hD1 pr h1
              refine ⟨_, ((Same.refl H').new h1) _ _ hD1, lt_line' ?_, ps ++ [p1], ks ++ [(Sum.inr e.1, v)], a1, a2, ?_, (s4.new h1).mut hD⟩
              · rw [List.length_map]
                omega
              · rw [take_next he, List.filter_append, List.filter_cons_of_pos (by simpa using c), List.filter_nil]
                exact (hp1.held a3).app (IsK.held a3 _ _ (IsK.held (hf.trans s4.held) _ _ ht))
          · obtain ⟨ps, ks, hD1, pr, hp1, s4⟩ := hP
            rw [lq, List.take_length] at hp1
            have kd' : H' l = some (.frz od (.dK kvs)) := s4 _ _ upd_same
            obtain ⟨f1, f2, f3⟩ := pairs_free (K := K) kd' hD1 pr
            refine ⟨kd', ?_⟩
            refine ⟨D, ps, ks, rfl, f1, f2, fun da hda => ?_⟩
            rw [mergeK_app ks [] (by rw [List.nil_append]; exact names_keys smM.fine.nodup hp1.keys), List.nil_append]
            have s7 := (Same.refl (upd H' l (.dK kvs))).new (o := .dK ks) hda
            have s8 := same_unlock g5.hl s4
            exact q' _ _ ⟨da, ks, rfl, upd_same, (hp1.held f3).held s7.held, s8.trans s7⟩
        rintro v H6 ⟨da, ks, rfl, hda, hQa, s6⟩
        have g6 := g5.same s6
        have hso6 := s6 _ _ hso5
        obtain ⟨xa, dx, px, qx, rx, ex, hx⟩ := isL_ins g6.hL
        cases ex
        rcases so with _ | ⟨a, _ | ⟨b, _ | ⟨c2, rest⟩⟩⟩
        · exact absurd ly (by show ¬ 0 = min 2 L.length; omega)
        · refine ⟨.ref p5, rfl, .ref p5, _, rfl, .inl ⟨_, SqL.of hso6, rfl⟩, rfl, true, rfl, ?_⟩
          refine iteT ?_
          refine ⟨.ref x, rfl, x, dx, _, rfl, hx, rfl, .ref p5, rfl, p5, _, 0, .str a, rfl, rfl, SqL.of hso6, rfl, [.ref x], [.str a], rfl, rfl, by show 1 ≤ sizeLine; decide, fun pp hpp => ?_⟩
          have s7 := (Same.refl H6).new (o := .tup [V.str a]) hpp
          refine ⟨.ref x, pp, L1, [a], rfl, (g6.same s7).hL, fine1, upd_same, inL1, fun N x2 H7 pmN soN s8 hx2 => ?_⟩
          have s78 := s7.trans s8
          have g7 := g6.same s78
          refine ⟨.ref da, rfl, t2, fun p hp => ?_⟩
          have sp := (Same.refl H7).new (o := .lst [.ref x2, .ref da]) hp
          have g8 := g7.same sp
          have s68 := s78.trans sp
          exact q p (.ref x2) da ks _ _ g8.far g8.dice g8.tabs (g7.dice.ne hp) upd_same (s68 _ _ hda) (hQa.held s68.held) (.inl ⟨smM.fine.few, smM, N, pmN.trans (pm1.filter _), soN, hx2.same sp⟩)
        · refine ⟨.ref p5, rfl, .ref p5, _, rfl, .inl ⟨_, SqL.of hso6, rfl⟩, rfl, false, rfl, ?_⟩
          refine iteF ?_
          refine ⟨.ref x, rfl, x, dx, _, rfl, hx, rfl, .ref p5, rfl, p5, _, 0, .str a, rfl, rfl, SqL.of hso6, rfl, .ref p5, rfl, p5, _, 1, .str b, rfl, rfl, SqL.of hso6, rfl, [.ref x], [.str a, .str b], rfl, rfl, by show 2 ≤ sizeLine; decide, fun pp hpp => ?_⟩
          have s7 := (Same.refl H6).new (o := .tup [V.str a, .str b]) hpp
          refine ⟨.ref x, pp, L1, [a, b], rfl, (g6.same s7).hL, fine1, upd_same, inL1, fun N x2 H7 pmN soN s8 hx2 => ?_⟩
          have s78 := s7.trans s8
          have g7 := g6.same s78
          refine ⟨.ref da, rfl, t2, fun p hp => ?_⟩
          have sp := (Same.refl H7).new (o := .lst [.ref x2, .ref da]) hp
          have g8 := g7.same sp
          have s68 := s78.trans sp
          exact q p (.ref x2) da ks _ _ g8.far g8.dice g8.tabs (g7.dice.ne hp) upd_same (s68 _ _ hda) (hQa.held s68.held) (.inl ⟨smM.fine.few, smM, N, pmN.trans (pm1.filter _), soN, hx2.same sp⟩)
        · exact absurd ly (by show ¬ rest.length + 1 + 1 + 1 = min 2 L.length; omega)
      refine nx_go ?_
      dsimp only
      refine ⟨.int r, rfl, rfl, _, rfl, ite2 (fun _ => ?_) (fun _ => ?_)⟩
      · -- only some
        have pmK := Lib.pick_filter sL.fine.nodup sond inL
        have smM : Lib.Small5 (L.pick so) := (sL.filter _).perm pmK
        have lso : so.length ≤ 2 := by rw [ly]; exact Nat.min_le_left _ _
        refine cut_set (fun v H' => ∃ da ks, v = .ref da ∧ H' da = some (.dK ks) ∧ IsQ H' (L.pick so) ks ∧ Same H5 H') (fun Q' q' => ?_) ?_
        · refine ⟨.ref p5, rfl, p5, rfl, ⟨_, SqL.of hso5⟩, fun D hD => ?_⟩
          refine lc_list (xs := so.map V.str) (fun i H' => ∃ (ps : List Addr) (ks : List (Key × V)), H' D = some (.lst (ps.map V.ref)) ∧ Paired (fun p kv => H' p = some (.tup [kV kv.1, kv.2])) ps ks ∧ IsQ H' (L.pick (so.take i)) ks ∧ Same H5 H') ?_ (fun i H' _ hP => ?_) (fun i y H' hy hP => ?_) (fun H' hP => ?_)
          · exact ⟨[], [], upd_same, .nil, by rw [List.take_zero]; rfl, (Same.refl _).mut hD⟩
          · obtain ⟨_, _, _, _, _, s4⟩ := hP
            exact SqL.of (s4 _ _ hso5)
          · obtain ⟨ps, ks, hD1, pr, hp1, s4⟩ := hP
            have io := lt_of_get hy
            rw [List.length_map] at io
            rw [List.getElem?_map, List.getElem?_eq_getElem io] at hy
            cases hy
            obtain ⟨t, et⟩ := Lib.get_in (inL _ (List.getElem_mem io))
            obtain ⟨v, ev, ht⟩ := (g5.hQ.held s4.held).val_of sL.fine.nodup (Lib.get_some et)
            have gl : DGet H' l (.str so[i]) (some v) := .inl ⟨kvs, Sum.inr so[i], .inl (s4 _ _ g5.hl), rfl, ev.symm⟩
            have kl := hp1.len
            rw [Lib.pick, List.length_map, List.length_take] at kl
            have pl := Paired.length pr
            refine ⟨rfl, tyes ?_⟩
            refine ⟨.str so[i], rfl, .ref l, rfl, .str so[i], rfl, l, v, rfl, gl, t2, fun p1 h1 => ?_⟩
            obtain ⟨a1, a2, a3⟩ := pairs_add (n := so[i]) (v := v) hD1 pr h1
            refine ⟨_, ((Same.refl H').new h1) _ _ hD1, lt_line' ?_, ps ++ [p1], ks ++ [(Sum.inr so[i], v)], a1, a2, ?_, (s4.new h1).mut hD⟩
            · rw [List.length_map]
              omega
            · rw [Lib.pick_next io et]
              exact (hp1.held a3).app (e := (so[i], t)) (IsK.held a3 _ _ ht)
          · obtain ⟨ps, ks, hD1, pr, hp1, s4⟩ := hP
            rw [List.length_map, List.take_length] at hp1
            refine ⟨D, ps, ks, rfl, SqL.of hD1, Paired.mono (fun (a : Addr) (b : Key × V) (hab : H' a = some (.tup [kV b.1, b.2])) => SqT.of hab) pr, fun da hda => ?_⟩
            rw [mergeK_app ks [] (by rw [List.nil_append]; exact names_keys smM.fine.nodup hp1.keys), List.nil_append]
            have s7 := (Same.refl H').new (o := .dK ks) hda
            exact q' _ _ ⟨da, ks, rfl, upd_same, hp1.held s7.held, s4.trans s7⟩
        rintro v H6 ⟨da, ks, rfl, hda, hQa, s6⟩
        have g6 := g5.same s6
        have hso6 := s6 _ _ hso5
        obtain ⟨xa, dx, px, qx, rx, ex, hx⟩ := isL_ins g6.hL
        cases ex
        rcases so with _ | ⟨a, _ | ⟨b, _ | ⟨c2, rest⟩⟩⟩
        · exact absurd ly (by show ¬ 0 = min 2 L.length; omega)
        · refine ⟨.ref p5, rfl, .ref p5, _, rfl, .inl ⟨_, SqL.of hso6, rfl⟩, rfl, true, rfl, ?_⟩
          refine iteT ?_
          refine ⟨.ref x, rfl, x, dx, _, rfl, hx, rfl, .ref p5, rfl, p5, _, 0, .str a, rfl, rfl, SqL.of hso6, rfl, [.ref x], [.str a], rfl, rfl, by show 1 ≤ sizeLine; decide, fun pp hpp => ?_⟩
          have s7 := (Same.refl H6).new (o := .tup [V.str a]) hpp
          refine ⟨.ref x, pp, L1, [a], rfl, (g6.same s7).hL, fine1, upd_same, inL1, fun N x2 H7 pmN soN s8 hx2 => ?_⟩
          have s78 := s7.trans s8
          have g7 := g6.same s78
          refine ⟨.ref da, rfl, t2, fun p hp => ?_⟩
          have sp := (Same.refl H7).new (o := .lst [.ref x2, .ref da]) hp
          have g8 := g7.same sp
          have s68 := s78.trans sp
          exact q p (.ref x2) da ks _ _ g8.far g8.dice g8.tabs (g7.dice.ne hp) upd_same (s68 _ _ hda) (hQa.held s68.held) (.inl ⟨smM.fine.few, smM, N, pmN.trans ((pm1.filter _).trans pmK.symm), soN, hx2.same sp⟩)
        · refine ⟨.ref p5, rfl, .ref p5, _, rfl, .inl ⟨_, SqL.of hso6, rfl⟩, rfl, false, rfl, ?_⟩
          refine iteF ?_
          refine ⟨.ref x, rfl, x, dx, _, rfl, hx, rfl, .ref p5, rfl, p5, _, 0, .str a, rfl, rfl, SqL.of hso6, rfl, .ref p5, rfl, p5, _, 1, .str b, rfl, rfl, SqL.of hso6, rfl, [.ref x], [.str a, .str b], rfl, rfl, by show 2 ≤ sizeLine; decide, fun pp hpp => ?_⟩
          have s7 := (Same.refl H6).new (o := .tup [V.str a, .str b]) hpp
          refine ⟨.ref x, pp, L1, [a, b], rfl, (g6.same s7).hL, fine1, upd_same, inL1, fun N x2 H7 pmN soN s8 hx2 => ?_⟩
          have s78 := s7.trans s8
          have g7 := g6.same s78
          refine ⟨.ref da, rfl, t2, fun p hp => ?_⟩
          have sp := (Same.refl H7).new (o := .lst [.ref x2, .ref da]) hp
          have g8 := g7.same sp
          have s68 := s78.trans sp
          exact q p (.ref x2) da ks _ _ g8.far g8.dice g8.tabs (g7.dice.ne hp) upd_same (s68 _ _ hda) (hQa.held s68.held) (.inl ⟨smM.fine.few, smM, N, pmN.trans ((pm1.filter _).trans pmK.symm), soN, hx2.same sp⟩)
        · exact absurd ly (by show ¬ rest.length + 1 + 1 + 1 = min 2 L.length; omega)
      refine nx_go ?_
      dsimp only
      refine cut_t (fun b H' => H' = H5) (fun Q' q' => ?_) ?_
      · refine ⟨.int r, rfl, rfl, _, rfl, ite2 (fun _ => ?_) (fun _ => ?_)⟩
        · exact ⟨.ref l, rfl, l, kvs, rfl, g5.hl, _, _, rfl, rfl, _, rfl, q' _ _ rfl⟩
        · exact q' _ _ rfl
      rintro b H6 rfl
      cases b with
      | true =>
        simp only [if_true]
        obtain ⟨xa, dx, px, qx, rx, ex, hx⟩ := isL_ins g5.hL
        cases ex
        have i0 : so[0]? = some (so[0]'(by omega)) := List.getElem?_eq_getElem _
        generalize (so[0]'(by omega)) = a at i0
        have ia : (so.map V.str)[0]? = some (.str a) := by rw [List.getElem?_map, i0]; rfl
        refine ⟨.ref x, rfl, .ref x, rfl, x, dx, _, rfl, hx, rfl, .ref p5, rfl, p5, _, 0, .str a, rfl, rfl, SqL.of hso5, atI_nat ia, [.ref x], [.str a], rfl, rfl, by show 1 ≤ sizeLine; decide, fun pp hpp => ?_⟩
        have s7 := (Same.refl H6).new (o := .tup [V.str a]) hpp
        refine ⟨.ref x, pp, L1, [a], rfl, (g5.same s7).hL, fine1, upd_same, fun n hn => by rw [List.mem_singleton.mp hn]; exact inL1 a (List.mem_of_getElem? i0), fun N x2 H7 pmN soN s8 hx2 => ?_⟩
        have s78 := s7.trans s8
        have g7 := g5.same s78
        have fN := (fine1.filter (fun e => decide (e.1 ∈ [a]))).perm pmN
        obtain ⟨ag, pmU⟩ := Lib.or_part fine1 fN fun e he => (List.mem_filter.mp (pmN.mem_iff.mp he)).1
        have l8 : (Lib.united L1 N).length ≤ 8 := by
          have := pmU.length_eq
          have := fine1.few
          omega
        refine use_or fine1 fN ag l8 g7.hL hx2 fun z N5 H8 pm5 so5 s9 hz => ?_
        have g8 := g7.same s9
        refine ⟨.ref l, rfl, t2, fun p hp => ?_⟩
        have sp := (Same.refl H8).new (o := .lst [z, .ref l]) hp
        have g9 := g8.same sp
        exact q p z l kvs L _ g9.far g9.dice g9.tabs (g8.dice.ne hp) upd_same g9.hl g9.hQ (.inl ⟨few, sL, N5, (pm5.trans pmU).trans pm1, so5, hz.same sp⟩)
      | false =>
        simp only [Bool.false_eq_true, if_false]
        refine nx_go ?_
        dsimp only
        refine ⟨.ref d, rfl, .ref l, rfl, .ref x, rfl, d, l, kvs, .ref x, L, L1, rfl, g5.dice, g5.hl, g5.hQ, sL, pm1, so1, g5.hL, fun p u l' kvs' M H7 e7 d7 pd hp7 hl7 hq7 r7 => ?_⟩
        have g7 := g5.ext e7 d7
        exact q p u l' kvs' M H7 g7.far d7 g7.tabs pd hp7 hl7 hq7 r7
end


end My
namespace My
open PySem PySem.Spec PyProof.Rows L2 TL
set_option pp.maxSteps 400
set_option pp.deepTerms false
set_option pp.maxSteps 6000
/-! ### steps on a drawn library -/
def sp__law_rightT (PT : Addr) : Sp := fun vs H Q _ => ∃ d, vs = [.ref d] ∧ IsDice H d ∧ LamX.Tabs [(PT, lamQ)] H ∧ ∀ H', ExtL d H H' → IsDice H' d → LamX.Tabs [(PT, lamQ)] H' → Q (.bl true) H'
theorem ne_stepR {K : PySem.W.Frag} {C D : Addr} {H : Hp} {M : Lib} {x y : V} {Q : VK} (a : StepR C D H M x) (b : StepR C D H M y) (q : Q (.bl false) H) : rOwnNe D (sp_Library___eq__ K C D) E0 x y H Q ∨ rNe x y H Q := by
  rcases a with ⟨a1, a2, N, a3, a4, a5⟩ | ⟨a1, rfl⟩
  · rcases b with ⟨b1, b2, N', b3, b4, b5⟩ | ⟨b1, rfl⟩
    · rw [lib_sorted a2.fine.nodup a3 a4 b3 b4] at b5
      exact .inl (neL (a2.fine.perm a3) a5 b5 q)
    · exact absurd a1 b1
  · rcases b with ⟨b1, b2, N', b3, b4, b5⟩ | ⟨b1, rfl⟩
    · exact absurd b1 a1
    · exact .inr ⟨rfl, by simpa using q⟩
section
variable {P : Program} {w : World} {K : PySem.W.Frag} {mg : Str → Option Value} {base : Heap} {C_Type C_Library : Addr} {PT : Addr}
theorem ok__law_right (T : Txt K mg C_Type C_Library) (c__law_library : CalN P w K mg base "_law_library" 15 ["_law_dice_here"] (sp__law_library K)) (c__law_made : CalN P w K mg base "_law_made" 13 ["_law_library_here"] (sp__law_made K C_Type C_Library)) (c__law_step : CalN P w K mg base "_law_step" 15 ["_law_dice_here", "_law_library_here", "_law_made_here"] (sp__law_stepT K C_Type C_Library PT)) (c__law_roll : CalN P w K mg base "_law_roll" 1 ["_law_dice_here", "_law_total"] (sp__law_roll K)) (m_Library_only : MetR P w K mg base C_Library "only" 5 (starSp 1 (sp_Library_only K C_Type C_Library))) (j_Library___init__ : MakD P w K mg base C_Library 3 ["self", "parts"] [.non] (sp_Library___init__ K C_Type C_Library)) (m_Library_without : MetR P w K mg base C_Library "without" 5 (starSp 1 (sp_Library_without K C_Type C_Library))) (p_Library_lines : PrpC P w K mg base C_Library "lines" 1 ["self"] (getSp C_Library "_lines")) (c__law_lines : CalN P w K mg base "_law_lines" 8 ["_law_library_here"] (sp__law_lines K)) (m_Library___eq__ : MetC P w K mg base C_Library "__eq__" 1 ["self", "other"] (sp_Library___eq__ K C_Type C_Library)) {f : Addr} {fd : FuncData} (F : Fun K "_law_right" "_law_right" s__law_right f fd) : FnOk P w K mg base CX0 16 f fd ["_law_dice_here"] (sp__law_rightT PT) := by
  have nd := sc__law_right.nd
  refine F.ok sc__law_right (fun vs H Q E h => ?_) (fun cdv A outer s H vs Q E hr h => ?_)
  · obtain ⟨d, rfl, _⟩ := h
    rfl
  · obtain ⟨d, rfl, di, hT, q⟩ := h
    refine ⟨_, (pss_cons (ps_set (i := 1) nd rfl (.inl rfl) (pe_callN c__law_library (hr.mono (by first | decide | omega)) rfl (pa_cons (pv 0) pa_nil)))
      (pss_cons (ps_for PassesOwn.never rfl (pi_range1 (by rfl) T.b_range (pa_cons (pe_op op_add pe_int (pe_callN c__law_roll (hr.mono (by first | decide | omega)) rfl (pa_cons (pv 0) (pa_cons pe_int pa_nil)))) pa_nil)) (pg_name (i := 2) nd rfl (.inl rfl)) (pss_cons (ps_set (i := 3) nd rfl (.inl rfl) (pe_callN c__law_made (hr.mono (by first | decide | omega)) rfl (pa_cons (pv 1) pa_nil)))
      (pss_cons (ps_asg (pe_callN c__law_step (hr.mono (by first | decide | omega)) rfl (pa_cons (pv 0) (pa_cons (pv 1) (pa_cons (pv 3) pa_nil)))) (pg_lst (by rfl) (pgs_cons (pg_name (i := 4) nd rfl (.inl rfl)) (pgs_cons (pg_name (i := 5) nd rfl (.inl rfl)) pgs_nil))))
      (pss_cons (ps_set (i := 6) nd rfl (.inl rfl) (pe_ifExp (pt_cmpR op_le (pe_callB call_lenD (by rfl) T.b_len (by decide +kernel) (pa_cons (pv 5) pa_nil)) pe_int (nomark _)) (pe_callN c__law_made (hr.mono (by first | decide | omega)) rfl (pa_cons (pv 5) pa_nil)) pe_str))
      (pss_cons (ps_if (PW.pt (pw_or (pt_cmpR (op_or (op_neC m_Library___eq__ (hr.mono (by first | decide | omega)) T.x_Library.nfirst T.x_Library.ne T.x_Library.under) op_ne) (pv 4) (pv 6) (nomark _)) (pw_or1 (pt_cmpR (op_neD hr.units) (pe_propC p_Library_lines T.k_Library (hr.mono (by first | decide | omega)) (pv 3)) (pe_callTy call_tuple_of (by rfl) T.b_tuple (by decide +kernel) (pa_cons (pe_callN c__law_lines (hr.mono (by first | decide | omega)) rfl (pa_cons (pv 1) pa_nil)) pa_nil)) (nomark _))))) (pss_one (ps_ret pe_bl)) pss_nil)
      (pss_one (ps_set (i := 1) nd rfl (.inl rfl) (pe_ifExp (pt_cmpR op_le (pe_callB call_lenD (by rfl) T.b_len (by decide +kernel) (pa_cons (pv 5) pa_nil)) pe_int (nomark _)) (pv 5) (pv 1)))))))))
      (pss_cons (ps_set (i := 3) nd rfl (.inl rfl) (pe_callN c__law_made (hr.mono (by first | decide | omega)) rfl (pa_cons (pv 1) pa_nil)))
      (pss_one (ps_ret (pe_and (pe_cmpR (op_eqC m_Library___eq__ (hr.mono (by first | decide | omega)) T.x_Library.nfirst) (pe_methR0 m_Library_only T.k_Library (hr.mono (by first | decide | omega)) (pv 3)) (pe_makeD0 j_Library___init__ (hr.mono (by first | decide | omega)) rfl T.c_Library) (nomark _)) (pe_one (pe_cmpR (op_eqC m_Library___eq__ (hr.mono (by first | decide | omega)) T.x_Library.nfirst) (pe_methR0 m_Library_without T.k_Library (hr.mono (by first | decide | omega)) (pv 3)) (pv 3) (nomark _))))))))), ?_⟩
    refine ⟨.ref d, rfl, d, rfl, di, fun l0 kv0 L0 H1 dr0 h0 q0 e1 d1 => ?_⟩
    refine asg_go2 ?_
    dsimp only
    have t1 := tabs_ext hT di e1
    refine cut_for (fun σ' H' => ∃ s2 s3 s4 s5 s6 l kvs L, σ' = [some (.ref d), some (.ref l), s2, s3, s4, s5, s6] ∧ H' l = some (.dK kvs) ∧ IsQ H' L kvs ∧ Lib.Small5 L ∧ ExtL d H H' ∧ IsDice H' d ∧ LamX.Tabs [(PT, lamQ)] H') (fun Nx hN => ?_) ?_
    · refine ⟨.ref d, rfl, d, 6, rfl, d1, by decide, by decide, fun r H2 r0 r6 e2 d2 => ⟨3, r, rfl, rfl, 3 + r, rfl, by omega, by omega, ?_⟩⟩
      refine for_range (lo := 0) (fun _ σ' H' => ∃ s2 s3 s4 s5 s6 l kvs L, σ' = [some (.ref d), some (.ref l), s2, s3, s4, s5, s6] ∧ H' l = some (.dK kvs) ∧ IsQ H' L kvs ∧ Lib.Small5 L ∧ ExtL d H H' ∧ IsDice H' d ∧ LamX.Tabs [(PT, lamQ)] H') ?_ (fun i σ' H' hi hP => ?_) (fun σ' H' hP => ?_)
      · have ld : l0 ≠ d := fun z => by
          obtain ⟨_, _, _, e⟩ := id d1
          rw [z, e] at h0
          cases h0
        exact ⟨_, _, _, _, _, l0, kv0, L0, rfl, e2 _ _ ld h0, q0.held (e2.held d1), dr0.toSmall5, ExtL.of (e1.trans e2), d2, tabs_ext t1 d1 e2⟩
      · obtain ⟨s2, s3, s4, s5, s6, l, kvs, L, rfl, hl, hQ, sL, far, dd, tb⟩ := hP
        refine ⟨.ref l, rfl, l, kvs, L, rfl, hl, hQ, sL, fun L1 x HA pmA soA sA hA => ?_⟩
        refine asg_go2 ?_
        dsimp only
        have fine1 := sL.fine.perm pmA
        refine ⟨.ref d, rfl, .ref l, rfl, .ref x, rfl, d, l, kvs, .ref x, L, L1, rfl, dd.same sA, tb.ext sA, sA _ _ hl, hQ.held sA.held, sL, pmA, soA, hA, fun p u l' kvs' M HB eB dB tB pd hp hl' hq' rB => ?_⟩
        have hh := heldL eB (dd.same sA)
        have hlB := hh _ _ (sA _ _ hl) trivial
        have hQB := (hQ.held sA.held).held hh.held
        have hxB := hA.heldD hh
        have farB := (far.trans (.same sA)).trans eB
        refine ⟨p, _, rfl, SqL.of hp, rfl, _, _, rfl, _, _, rfl, rfl, ?_⟩
        dsimp only
        have lm := hq'.len
        refine cut_set (fun v H' => StepR C_Type C_Library H' M v ∧ Same HB H') (fun Q' q' => ?_) ?_
        · refine ⟨.ref l', rfl, l', kvs', rfl, hl', _, _, rfl, rfl, _, rfl, ?_⟩
          rcases id rB with ⟨l8, sM, N, pmN, soN, hN2⟩ | ⟨l8, rfl⟩
          · refine ite_to (decide_eq_true (by omega)) ?_
            exact ⟨.ref l', rfl, l', kvs', M, rfl, hl', hq', sM, fun M1 y HC pmM soM sC hM => q' _ _ ⟨.inl ⟨l8, sM, M1, pmM, soM, hM⟩, sC⟩⟩
          · refine ite_no (decide_eq_false (by omega)) ?_
            exact q' _ _ ⟨.inr ⟨l8, rfl⟩, Same.refl _⟩
        rintro due HC ⟨rC, sC⟩
        have hxC := hxB.same sC
        have hlC := sC _ _ hlB
        have hQC := hQB.held sC.held
        refine ⟨u, rfl, due, rfl, ne_stepR (rB.same sC) rC ⟨false, rfl, iteF ?_⟩⟩
        obtain ⟨xa, dx, dp, px, qx, kvx, ex, hx, hdp, hpp, hnn, hll⟩ := id hxC
        cases ex
        refine ⟨.ref x, rfl, x, dx, _, rfl, hx, x, dx, _, .ref qx, rfl, hx, rfl, ?_⟩
        refine ⟨.ref l, rfl, l, kvs, L, rfl, hlC, hQC, sL, fun L2 pz HD pm2 so2 sD npz hpz => ⟨pz, _, rfl, .inl ⟨SqL.of hpz, fun lt hlt => ?_⟩⟩⟩
        rw [lib_sorted sL.fine.nodup pmA soA pm2 so2]
        have sD2 := sD.new (o := .tup ((Lib.lines L1).map V.str)) hlt
        refine ⟨_, _, .tup (SqT.of (sD2 _ _ hll)) (dp_textsN _), .tup (SqT.of upd_same) (dp_textsN _), (shaped_strs fine1.lines_ok).2, (shaped_strs fine1.lines_ok).2, ?_⟩
        rw [show PyData.eqv (.tuple ((Lib.lines L1).map PyData.str)) (.tuple ((Lib.lines L1).map PyData.str)) = true by rw [PyData.eqv, eqv_texts]; exact decide_eq_true rfl]
        refine ⟨false, rfl, iteF ?_⟩
        refine nx_go ?_
        dsimp only
        have sBD := sC.trans sD2
        refine ⟨.ref l', rfl, l', kvs', rfl, sBD _ _ hl', _, _, rfl, rfl, _, rfl, ?_⟩
        have farD := farB.trans (.same sBD)
        by_cases l8 : M.length ≤ 8
        · refine ite_to (decide_eq_true (by omega)) ?_
          rcases rB with ⟨_, sM, _⟩ | ⟨z, _⟩
          · exact ⟨.ref l', rfl, _, _, _, _, _, l', kvs', M, rfl, sBD _ _ hl', hq'.held sBD.held, sM, farD, dB.same sBD, tB.ext sBD⟩
          · exact absurd l8 z
        · refine ite_no (decide_eq_false (by omega)) ?_
          exact ⟨.ref l, rfl, _, _, _, _, _, l, kvs, L, rfl, sBD _ _ hlB, hQB.held sBD.held, sL, farD, dB.same sBD, tB.ext sBD⟩
      · exact hN _ _ hP
    rintro σ' H3 ⟨s2, s3, s4, s5, s6, l, kvs, L, rfl, hl, hQ, sL, far, dd, tb⟩
    refine ⟨.ref l, rfl, l, kvs, L, rfl, hl, hQ, sL, fun L1 x HA pmA soA sA hA => ?_⟩
    refine asg_go2 ?_
    dsimp only
    have fine1 := sL.fine.perm pmA
    obtain ⟨xa, dx, px, qx, rx, ex, hx⟩ := isL_ins hA
    cases ex
    refine ⟨.ref x, rfl, x, dx, _, rfl, hx, rfl, [.ref x], [], rfl, rfl, Nat.zero_le _, fun pp hpp => ?_⟩
    have s7 := (Same.refl HA).new (o := .tup []) hpp
    refine ⟨.ref x, pp, L1, [], rfl, hA.same s7, fine1, upd_same, fun _ h => absurd h List.not_mem_nil, fun N x2 HB pmN soN s8 hx2 => ?_⟩
    have eN : N = [] := by
      have e : (L1.filter fun e => decide (e.1 ∈ ([] : List Str))) = [] := List.filter_eq_nil_iff.mpr fun e _ => by simp
      rw [e] at pmN
      exact pmN.eq_nil
    subst eN
    refine cut_e (te := tMake C_Library (sp_Library___init__ K C_Type C_Library) [V.non] E0 tNil) (fun v H' => IsL C_Type C_Library H' [] v ∧ Same HB H') (fun Q' k => make_lib0 fun xe Hi si hle => k _ _ ⟨hle, si⟩) ?_
    rintro ve HC ⟨hle, s9⟩
    refine eqL Lib.fine_nil (hx2.same s9) hle ⟨true, rfl, iteT ?_⟩
    have s79 := (s7.trans s8).trans s9
    have hA9 := hA.same s79
    refine ⟨.ref x, rfl, x, dx, _, rfl, s79 _ _ hx, rfl, [.ref x], [], rfl, rfl, Nat.zero_le _, fun pp2 hpp2 => ?_⟩
    have s10 := (Same.refl HC).new (o := .tup []) hpp2
    refine ⟨.ref x, pp2, L1, [], rfl, hA9.same s10, fine1, upd_same, fun _ h => absurd h List.not_mem_nil, fun N x3 HD pmN soN s11 hx3 => ?_⟩
    have e : (L1.filter fun e => !decide (e.1 ∈ ([] : List Str))) = L1 := List.filter_eq_self.mpr fun e _ => by simp
    rw [e] at pmN
    rw [lib_sorted fine1.nodup (List.Perm.refl L1) soA pmN soN] at hx3
    have sF := (sA.trans s79).trans (s10.trans s11)
    refine ⟨.ref x, rfl, eqL fine1 hx3 (hA9.same (s10.trans s11)) ?_⟩
    exact q _ (far.trans (.same sF)) (dd.same sF) (tb.ext sF)
end


end My
namespace My
open PySem PySem.Spec PyProof.Rows L2 TL
/-! ### for i, x in enumerate(t), t a tuple -/
section
open PySem
set_option maxHeartbeats 1000000 in
theorem meets_enumerate_new1 {v : Value} {o : Obj} {H : Heap → Prop} (B : PySem.Begins v o H) :
    Meets (Builtin.«enumerate.__new__» ⟨[.type "enumerate", v], []⟩) (fun _ R s => H s.heap ∧
      R (.ok (.ret (.ref (s.heap.push o).objs.size))) { s with heap := (s.heap.push o).push { cls := .type "enumerate", data := .fields #[.none, .bool false, .ref s.heap.objs.size, rawInt 0, .none, .none] } }) :=
  .of_wp fun prog w A R s h => by
    obtain ⟨hp, g, d, tk, os⟩ := s; obtain ⟨h1, h⟩ := h
    have hsub := sub_enumerate
    have q1 : ∀ {A' : Around} {E : Value → Shared → Prop} {Q : Value → Shared → Prop}, Q (.ref hp.objs.size) ⟨hp.push o, g, d, tk, os⟩ → wpAny (model prog w) A' (pyIter v) Q E ⟨hp, g, d, tk, os⟩ :=
      fun q => B.iter prog w _ _ ⟨hp, g, d, tk, os⟩ _ h1 q
    wp_walk using q1
    refine wpAny_stack_any fun st => wpAny_pure ?_
    split
    · rename_i c _ _ _ _ _
      cases (c == Value.type "enumerate")
      · wp_walk using q1
        exact ⟨_, rfl, h⟩
      · wp_walk using q1
        exact ⟨_, rfl, h⟩
    · wp_walk using q1
      exact ⟨_, rfl, h⟩
theorem enum_begins1 {prog : Program} {w : World} {A : Around} {E : Value → Shared → Prop} {s : Shared} {v : Value} {o : Obj} {H : Heap → Prop} {Q : Value → Shared → Prop} (B : PySem.Begins v o H) (h1 : H s.heap)
    (h : ∀ h', IsEnum h' (s.heap.objs.size + 1) s.heap.objs.size 0 .none → h'.get? s.heap.objs.size = some o → h'.objs.size = s.heap.objs.size + 2 →
      (∀ b o, s.heap.get? b = some o → h'.get? b = some o) → Q (.ref (s.heap.objs.size + 1)) { s with heap := h' }) :
    wpAny (model prog w) A (call (.type "enumerate") [v]) Q E s := by
  refine callType_new F.called_enumerate (by decide) (F.typeCall_enumerate_1 _) (F.newCall_enumerate_1 _) (fun obj => F.args_object_init_2 obj _) F.entry_enumerate_new
    (meets_enumerate_new1 B) ⟨h1, ?_⟩
  have hz : (s.heap.push o).objs.size = s.heap.objs.size + 1 := Heap.size_push ..
  show _ ∧ _
  rw [hz]
  have he : IsEnum ((s.heap.push o).push { cls := .type "enumerate", data := .fields #[.none, .bool false, .ref s.heap.objs.size, rawInt 0, .none, .none] }) (s.heap.objs.size + 1) s.heap.objs.size 0 .none := by
    have := Heap.get?_push_size (s.heap.push o) (o := { cls := .type "enumerate", data := .fields #[.none, .bool false, .ref s.heap.objs.size, rawInt 0, .none, .none] }) rfl
    rw [hz] at this; exact this
  refine ⟨⟨_, he, rfl⟩, h _ he (Heap.get?_push_of_some _ (Heap.get?_push_size _ B.free)) (by rw [Heap.size_push, hz]) fun b o x => Heap.get?_push_of_some _ (Heap.get?_push_of_some _ x)⟩
end
/-- the tuple at a, each item in a new pair -/
def Itet (K : PySem.W.Frag) (a : Addr) : It :=
  ⟨fun i H => ∃ (xs : List V) (x : V), SqT K H a xs ∧ xs[i]? = some x, fun i H v H' => ∃ T x, v = .ref T ∧ H T = none ∧ H' = upd H T (.tup [.int (i : Nat), x]) ∧ ∀ xs, SqT K H a xs → xs[i]? = some x, fun i H => ∃ xs : List V, SqT K H a xs ∧ xs.length = i⟩
theorem turn_enumT {P : Program} {w : World} {K : PySem.W.Frag} {elts : List Expr} {kk : Nat} {tpos : PySem.Pos} (a e it : Addr) :
    Turn P w K (.Tuple elts kk tpos) (Itet K a) [e, it] e (fun i h => (∃ old, IsEnum h e it ((i : Nat) : Int) old) ∧ h.IsTupleIter it a i ∧ e ≠ it) where
  mem := by simp
  obj := fun i h st b hb => by
    obtain ⟨⟨old, he⟩, ⟨o, ho, hc, hd⟩, _⟩ := st
    have e' : b = e ∨ b = it := by simpa using hb
    rcases e' with z | z
    · rw [z]; exact ⟨_, he, fun v q => nomatch q⟩
    · rw [z]; exact ⟨o, ho, fun v q => by rw [hd] at q; cases q⟩
  keep := fun i h h' st k => let ⟨⟨old, he⟩, hi, hne⟩ := st; ⟨⟨old, k e (by simp) _ he⟩, hi.at fun o q => k it (by simp) o q, hne⟩
  item := by
    intro X hP hw hK hc i pins s σ H E I hf st hg
    subst hP hw hK
    obtain ⟨⟨old, he⟩, hit, hne⟩ := st
    obtain ⟨xs, x, hq, hx⟩ := hg
    obtain ⟨its, rv, p, hz⟩ := I.tuple hq
    obtain ⟨u, hu, ru⟩ := rv.get hx
    have hel : e < s.heap.objs.size := Heap.lt_size he
    have hil : it < s.heap.objs.size := by obtain ⟨_, q, _⟩ := hit; exact Heap.lt_size q
    have hae : a ≠ e := fun z => by
      obtain ⟨o, ho, hc1, _⟩ := id p
      rw [z] at ho
      have e1 := Option.some.inj (ho.symm.trans he)
      rw [e1] at hc1
      exact absurd (Value.type.inj hc1) (by decide)
    have hai : a ≠ it := fun z => by
      obtain ⟨o, ho, hc1, _⟩ := id p
      obtain ⟨o2, ho2, hc2, _⟩ := id hit
      rw [z] at ho
      have e1 := Option.some.inj (ho.symm.trans ho2)
      rw [← e1, hc1] at hc2
      exact absurd (Value.type.inj hc2) (by decide)
    have D := Draws.tuple (prog := X.prog) (w := X.w) (A := X.A.in1) (show X.A.in1.handled = none from I.ok.hd hc) it a hai its.toArray
    have li : i < its.toArray.size := by
      have := (List.getElem?_eq_some_iff.mp hu).1
      simpa using this
    refine wpAny_pyNext_enum_itemD D he ⟨hit, p⟩ li hne (by simp only [List.mem_cons, List.not_mem_nil, or_false, not_or]; exact ⟨hne, hae.symm⟩) fun y h' tk hy ho hit' hT hsz hk => ?_
    have eu : y = u := by
      have : its[i]? = some y := by simpa using hy
      rw [hu] at this
      exact (Option.some.inj this).symm
    subst eu
    refine ⟨_, rfl, wpAny_letOwnedTupleGo_enum (s := { s with heap := h', toks := tk + 1 }) ho fun h'' he' sb => ?_⟩
    have hT2 : h''.get? s.heap.objs.size = some { cls := .type "tuple", data := .seq #[.int i tk, y] } := (sb.2 _ (Nat.ne_of_gt hel)).trans hT
    have new : ObjOk X.prog X.w (upd H s.heap.objs.size (.tup [.int (i : Nat), x])) h'' s.heap.objs.size (.tup [.int (i : Nat), x]) :=
      ⟨by show 2 ≤ sizeLine; decide, [.int i tk, y], .cons ⟨_, rfl⟩ (.cons ru .nil), ⟨_, hT2, rfl, _, rfl⟩⟩
    have I1 : Inv X pins σ (upd H s.heap.objs.size (.tup [.int (i : Nat), x])) { s with heap := h'', toks := tk + 1 } :=
      I.turnedNew (ch := [e, it]) (fun b ob hb q => (sb.2 b (fun z => hb (by simp [z]))).trans (hk b ob (fun z => hb (by simp [z])) (fun z => hb (by simp [z])) q)) hf (Nat.le_refl _) new
    refine ⟨.ref s.heap.objs.size, _, I1, rfl, ⟨_, x, rfl, I.hok.fresh (Nat.le_refl _), rfl, fun ys hy => by rw [I.tuple_inj hy hq]; exact hx⟩, ⟨⟨y, ?_⟩, hit'.1.at fun o q => (sb.2 it (Ne.symm hne)).trans q, hne⟩, fun b hb => ?_⟩
    · have e1 : ((i + 1 : Nat) : Int) = (i : Int) + 1 := by omega
      rw [e1]; exact he'
    · have hb' : b < s.heap.objs.size := by
        have e' : b = e ∨ b = it := by simpa using hb
        rcases e' with z | z
        · rw [z]; exact hel
        · rw [z]; exact hil
      rw [upd_ne (Nat.ne_of_lt hb')]
      exact (hf b hb).1
  done := by
    intro X hP hw hK hc i pins s σ H E I hf st hg
    subst hP hw hK
    obtain ⟨⟨old, he⟩, hit, hne⟩ := st
    obtain ⟨xs, hq, hx⟩ := hg
    obtain ⟨its, rv, p, hz⟩ := I.tuple hq
    obtain ⟨f0, f1, f2, f3, f4, f5⟩ := hf it (by simp)
    have hl := rv.length
    have hae : a ≠ e := fun z => by
      obtain ⟨o, ho, hc1, _⟩ := id p
      rw [z] at ho
      have e1 := Option.some.inj (ho.symm.trans he)
      rw [e1] at hc1
      exact absurd (Value.type.inj hc1) (by decide)
    have hai : a ≠ it := fun z => by
      obtain ⟨o, ho, hc1, _⟩ := id p
      obtain ⟨o2, ho2, hc2, _⟩ := id hit
      rw [z] at ho
      have e1 := Option.some.inj (ho.symm.trans ho2)
      rw [← e1, hc1] at hc2
      exact absurd (Value.type.inj hc2) (by decide)
    have D := Draws.tuple (prog := X.prog) (w := X.w) (A := X.A.in1) (show X.A.in1.handled = none from I.ok.hd hc) it a hai its.toArray
    have hit2 : s.heap.IsTupleIter it a its.toArray.size := by
      rw [show its.toArray.size = i by simp; omega]
      exact hit
    exact wpAny_pyNext_enum_endD D he ⟨hit2, p⟩ fun h' eb => ⟨rfl, I.turned (t' := s.toks) (fun b o hb q => eb b o hb q) f0 f1 f3 f4 f5⟩
  self := fun A i s Q E st h => let ⟨⟨_, he⟩, _⟩ := st; wpAny_pyIter_enum he h
def iEnumT (K : PySem.W.Frag) (ta : TA) : TI := fun σ H R => ta σ H fun vs H1 => ∃ a xs, vs = [.ref a] ∧ SqT K H1 a xs ∧ R (Itet K a) H1
theorem pi_enumT {X : Cx} {e : Expr} {ta : TA} {p pos tpos : PySem.Pos} {elts : List Expr} {kk : Nat} (hg : Gl X "enumerate") (hm : X.mg "enumerate" = none) (ha : PA X [e] ta) (hs : starEach [e] X.env = [(false, eval e X.env)] := by rfl) :
    PI X (.Tuple elts kk tpos) (.Call (.Name "enumerate" p) [e] [] pos) (iEnumT X.K ta) := by
  refine ⟨fun pins s σ H R I h => ?_⟩
  refine Call_ (ld_blt I hg hm boot_enumerate (PyProof.Rows.callWith_type1 (thn (ha.run pos pins s σ H _ I h) fun us s1 ⟨vs, H1, I1, r1, q1⟩ => ?_) hs rfl))
  obtain ⟨a, xs, ex, hq, q⟩ := q1
  subst ex
  cases r1 with
  | cons r rr =>
    cases rr
    cases r
    obtain ⟨its, rv, p', hz⟩ := I1.tuple hq
    refine enum_begins1 (begins_tuple a its.toArray) p' fun h' he hit hsz hk => wpAny_pyIter_enum he ?_
    have I2 : Inv X pins σ H1 { s1 with heap := h' } := I1.kept (t' := s1.toks) hk
    refine ⟨s1.heap.objs.size + 1, [s1.heap.objs.size + 1, s1.heap.objs.size], _, _, H1, rfl, I2, turn_enumT a (s1.heap.objs.size + 1) s1.heap.objs.size, ⟨⟨.none, he⟩, ⟨_, hit, rfl, rfl⟩, Nat.succ_ne_self _⟩, fun b hb => ?_, q⟩
    have e' : b = s1.heap.objs.size + 1 ∨ b = s1.heap.objs.size := by simpa using hb
    have hle : s1.heap.objs.size ≤ b := by
      rcases e' with z | z
      · rw [z]; exact Nat.le_add_right _ _
      · rw [z]; exact Nat.le_refl _
    exact I1.fpOk hle (I1.hok.fresh hle)
theorem for_enumT {K : PySem.W.Frag} {a : Addr} {xs : List V} {g : TG} {tb : TS} {D : Ends} {σ : L2.St} {H : Hp} (Pv : Nat → L2.St → Hp → Prop) (h0 : Pv 0 σ H) (hl : ∀ i σ H, i ≤ xs.length → Pv i σ H → SqT K H a xs)
    (hs : ∀ i x σ H T, xs[i]? = some x → Pv i σ H → H T = none → g (.ref T) σ (upd H T (.tup [.int (i : Nat), x])) fun σ2 H2 => tb { D with nx := Pv (i + 1), ct := Pv (i + 1), bk := D.nx } σ2 H2) (hd : ∀ σ H, Pv xs.length σ H → D.nx σ H) :
    ∃ W : Nat → Nat → L2.St → Hp → Prop, (∃ m, W 0 m σ H) ∧ ∀ i m σ H, W i m σ H →
      ((Itet K a).stop i H ∧ D.nx σ H) ∨ ((Itet K a).go i H ∧ ∃ N : L2.St → Hp → Prop, (∀ σ' H', N σ' H' → ∃ m', m' < m ∧ W (i + 1) m' σ' H') ∧ ∀ x H', (Itet K a).yld i H x H' → g x σ H' fun σ2 H2 => tb { D with nx := N, ct := N, bk := D.nx } σ2 H2) := by
  refine ⟨fun i m σ H => m = xs.length - i ∧ i ≤ xs.length ∧ Pv i σ H, ⟨xs.length, by simp, Nat.zero_le _, h0⟩, ?_⟩
  rintro i m σ H ⟨rfl, hi, p⟩
  have q := hl i σ H hi p
  by_cases hlt : i < xs.length
  · refine .inr ⟨⟨xs, xs[i], q, by simp [hlt]⟩, Pv (i + 1), fun σ' H' p' => ⟨xs.length - (i + 1), by omega, rfl, hlt, p'⟩, fun x H' y => ?_⟩
    obtain ⟨T, z, rfl, hT, rfl, y⟩ := y
    exact hs i z σ H T (y xs q) p hT
  · have e : i = xs.length := by omega
    subst e
    exact .inl ⟨⟨xs, q, rfl⟩, hd σ H p⟩


end My
namespace My
open PySem PySem.Spec PyProof.Rows L2 TL
set_option pp.maxSteps 400
set_option pp.deepTerms false
set_option pp.maxSteps 6000
/-! ### a library read from its lines -/
/-- the line tells the part -/
def RowOf (x : Str) (e : Str × Ty) : Prop := x.length ≤ 1000 ∧ (PySem.Txt.partition x " : ").1 = e.1 ∧ (PySem.Txt.partition x " : ").2.2 = e.2.text
def sp__read_line (K : PySem.W.Frag) (C D : Addr) : Sp := fun vs H Q _ => ∃ x i, ∃ e : Str × Ty, vs = [.str x, i] ∧ RowOf x e ∧ Wd e.1 ∧ e.2.Fits ∧ ∀ p v H', Same H H' → IsT C H' e.2 v → H' p = some (.tup [.str e.1, v]) → Q (.ref p) H'
def sp_Library_read (K : PySem.W.Frag) (C D : Addr) : Sp := fun vs H Q _ => ∃ p, ∃ xs : List Str, ∃ L : Lib, vs = [.ref D, .ref p] ∧ H p = some (.tup (xs.map V.str)) ∧ Paired RowOf xs L ∧ L.Fine ∧
  ∀ N y H', List.Perm N L → sortedS (Lib.names N) = true → Same H H' → IsL C D H' N (.ref y) → Q (.ref y) H'
theorem paired_at {α β : Type} {R : α → β → Prop} : ∀ {xs : List α} {ys : List β} {i : Nat} {x : α}, Paired R xs ys → xs[i]? = some x → ∃ y, ys[i]? = some y ∧ R x y
  | _, _, 0, _, .cons a _, h => by cases h; exact ⟨_, rfl, a⟩
  | _, _, i + 1, _, .cons _ r, h => paired_at (i := i) r h
section
variable {P : Program} {w : World} {K : PySem.W.Frag} {mg : Str → Option Value} {base : Heap} {C_Type C_Library : Addr}
theorem ok__read_line (T : Txt K mg C_Type C_Library) (c_is_word : CalN P w K mg base "is_word" 1 ["value"] (sp_is_word K)) (k_Type_read : CmtC P w K mg base C_Type "read" 18 ["cls", "text"] (sp_Type_read K C_Type)) {f : Addr} {fd : FuncData} (F : Fun K "_read_line" "_read_line" s__read_line f fd) : FnOk P w K mg base CX0 19 f fd ["line", "at"] (sp__read_line K C_Type C_Library) := by
  have nd := sc__read_line.nd
  refine F.ok sc__read_line (fun vs H Q E h => ?_) (fun cdv A outer s H vs Q E hr h => ?_)
  · obtain ⟨x, i, e, rfl, _⟩ := h
    rfl
  · obtain ⟨x, i, e, rfl, ⟨xl, p1, p2⟩, wn, ft, q⟩ := h
    refine ⟨_, (pss_cons (ps_if (pt_not (pt_val (pe_callB call_isi (by rfl) T.b_isinstance (by decide +kernel) (pa_cons (pv 0) (pa_cons (pe_bltn (v := .ty "str") (u := .type "str") (by rfl) T.b_str (by decide +kernel) rfl) pa_nil))))) (pss_one ps_never) pss_nil)
      (pss_cons (ps_asg (pe_partition (pv 0) (pe_globE rfl T.g__COLON)) (pg_tup (by rfl) (pgs_cons (pg_name (i := 2) nd rfl (.inl rfl)) (pgs_cons (pg_name (i := 3) nd rfl (.inl rfl)) (pgs_cons (pg_name (i := 4) nd rfl (.inl rfl)) pgs_nil)))))
      (pss_cons (ps_if (pt_not (pt_val (pe_callN c_is_word (hr.mono (by first | decide | omega)) rfl (pa_cons (pv 2) pa_nil)))) (pss_one ps_never) pss_nil)
      (pss_one (ps_try_thru0 (pss_one (ps_ret (pe_tup (pa_cons (pv 2) (pa_cons (pe_cmethC k_Type_read (hr.mono (by first | decide | omega)) (pe_glob (v := .ref C_Type) rfl T.c_Type rfl) (pa_cons (pv 4) pa_nil)) pa_nil)))))))))), ?_⟩
    refine ⟨.str x, rfl, .str x, .ty "str", .type "str", .type "str", true, rfl, .ty _, .base (.str x), kit_ty (by decide +kernel), true, rfl, iteF ?_⟩
    refine nx_go ?_
    dsimp only
    have wl := isW_len wn.1
    refine ⟨.str x, rfl, ⟨_, rfl⟩, x, " : ", rfl, rfl, by decide +kernel, lt_line (by omega), fun pp hpp => ⟨pp, _, rfl, SqT.of upd_same, rfl, _, _, rfl, _, _, rfl, _, _, rfl, rfl, ?_⟩⟩
    have s1 := (Same.refl H).new (o := .tup [V.str (PySem.Txt.partition x " : ").1, .str (PySem.Txt.partition x " : ").2.1, .str (PySem.Txt.partition x " : ").2.2]) hpp
    generalize upd H pp (.tup [V.str (PySem.Txt.partition x " : ").1, .str (PySem.Txt.partition x " : ").2.1, .str (PySem.Txt.partition x " : ").2.2]) = H1 at s1
    rw [p1, p2]
    dsimp only
    refine ⟨.str e.1, rfl, .str e.1, rfl, .inl ⟨e.1, rfl, by omega, wn.2⟩, fun H2 s2 => ⟨true, congrArg V.bl wn.1, iteF ?_⟩⟩
    refine nx_go ?_
    dsimp only
    refine ⟨.str e.1, rfl, rfl, .str e.2.text, rfl, e.2.text, e.2, rfl, Ty.reads_text _ e.2 (Nat.le_refl _) ft 4 ft.low, rfl, fun z H3 s3 hz => ⟨by show 2 ≤ sizeLine; decide, fun p hp => ?_⟩⟩
    have s4 := (Same.refl H3).new (o := .tup [V.str e.1, .ref z]) hp
    exact q p (.ref z) _ (((s1.trans s2).trans s3).trans s4) (IsT.same s4 _ _ hz) upd_same
theorem ok_Library_read (T : Txt K mg C_Type C_Library) (i_Library___init__ : MakC P w K mg base C_Library 3 ["self", "parts"] (sp_Library___init__ K C_Type C_Library)) (c__read_line : CalN P w K mg base "_read_line" 19 ["line", "at"] (sp__read_line K C_Type C_Library)) {f : Addr} {fd : FuncData} (F : Fun K "read" "Library.read" s_Library_read f fd) : FnR P w K mg base CX0 20 f (starSp 1 (sp_Library_read K C_Type C_Library)) := by
  have nd := sc_Library_read.nd
  refine F.okStar sc_Library_read (fun _ _ _ _ _ _ _ => rfl) (fun _ _ _ _ _ _ _ _ _ => rfl) (fun cdv A outer s H vs Q E hr h => ?_)
  · obtain ⟨p, xs, L, rfl, hp, rows, fL, q⟩ := h
    refine ⟨_, (pss_cons (ps_set (i := 2) nd rfl (.inl rfl) pe_dnewK)
      (pss_cons (ps_for PassesOwn.never rfl (pi_enumT (by rfl) T.b_enumerate (pa_cons (pv 1) pa_nil)) (pg_tup (by rfl) (pgs_cons (pg_name (i := 3) nd rfl (.inl rfl)) (pgs_cons (pg_name (i := 4) nd rfl (.inl rfl)) pgs_nil))) (pss_cons (ps_asg (pe_callN c__read_line (hr.mono (by first | decide | omega)) rfl (pa_cons (pv 4) (pa_cons (pv 3) pa_nil))) (pg_tup (by rfl) (pgs_cons (pg_name (i := 5) nd rfl (.inl rfl)) (pgs_cons (pg_name (i := 6) nd rfl (.inl rfl)) pgs_nil))))
      (pss_cons (ps_if (pt_cmp (pc_din (by first | exact Nat.lt_of_le_of_lt (Nat.add_le_add_left (by decide : 1 ≤ 64) _) hr.units | exact Nat.lt_of_le_of_lt (Nat.add_le_add_left (by decide : 4 ≤ 64) _) hr.units | exact Nat.lt_of_le_of_lt (Nat.add_le_add_left (by decide : 7 ≤ 64) _) hr.units) (pv 5) (pv 2)) (by rfl)) (pss_one ps_never) pss_nil)
      (pss_one (ps_dput (by first | exact Nat.lt_of_le_of_lt (Nat.add_le_add_left (by decide : 1 ≤ 64) _) hr.units | exact Nat.lt_of_le_of_lt (Nat.add_le_add_left (by decide : 4 ≤ 64) _) hr.units | exact Nat.lt_of_le_of_lt (Nat.add_le_add_left (by decide : 7 ≤ 64) _) hr.units) (pv 2) (pv 5) (pv 6) (by rfl))))))
      (pss_one (ps_ret (pe_makeV i_Library___init__ (hr.mono (by first | decide | omega)) (pv 0) (pa_cons (pv 2) pa_nil)))))), ?_⟩
    have few := fL.few
    have lr := Paired.length rows
    refine fun D hD => ?_
    refine asg_go2 ?_
    dsimp only
    have sD := (Same.refl H).new (o := .dK []) hD
    have hD0 : upd H D (.dK []) D = some (.dK []) := upd_same
    generalize upd H D (.dK []) = H1 at sD hD0
    refine ⟨.ref p, rfl, p, _, rfl, SqT.of (sD _ _ hp), ?_⟩
    refine for_enumT (xs := xs.map V.str) (fun i σ' H' => ∃ s3 s4 s5 s6 ks, σ' = [some (.ref C_Library), some (.ref p), some (.ref D), s3, s4, s5, s6] ∧ H' D = some (.dK ks) ∧ IsP C_Type H' (L.take i) ks ∧ Same H H') ?_ (fun i σ' H' _ hP => ?_) (fun i y σ' H' T1 hy hP hT1 => ?_) (fun σ' H' hP => ?_)
    · exact ⟨_, _, _, _, [], rfl, hD0, by rw [List.take_zero]; rfl, sD⟩
    · obtain ⟨_, _, _, _, _, _, _, _, sm⟩ := hP
      exact SqT.of (sm _ _ hp)
    · obtain ⟨s3, s4, s5, s6, ks, rfl, hD1, hp1, sm⟩ := hP
      rw [List.getElem?_map] at hy
      obtain ⟨x, hx, rfl⟩ := Option.map_eq_some_iff.mp hy
      obtain ⟨e, he, row⟩ := paired_at rows hx
      have em := List.mem_of_getElem? he
      have io := lt_of_get he
      have kl := hp1.len
      rw [List.length_take] at kl
      have sT := (Same.refl H').new (o := .tup [V.int (i : Nat), .str x]) hT1
      refine ⟨T1, _, rfl, SqT.of upd_same, rfl, _, _, rfl, _, _, rfl, rfl, ?_⟩
      dsimp only
      refine ⟨.str x, rfl, .int (i : Nat), rfl, x, .int (i : Nat), e, rfl, row, fL.words _ em, fL.fits _ em, fun q1 v H2 s2 hv hq1 => ?_⟩
      refine ⟨q1, _, rfl, SqT.of hq1, rfl, _, _, rfl, _, _, rfl, rfl, ?_⟩
      dsimp only
      have s02 := sT.trans s2
      have hD2 := s02 _ _ hD1
      have hp2 := hp1.same s02
      have out := Lib.take_out fL.nodup he
      refine ⟨.str e.1, rfl, .ref D, rfl, D, _, rfl, .k (k := Sum.inr e.1) hD2, _, rfl, ?_⟩
      rw [hp2.none_of out]
      refine iteF ?_
      refine nx_go ?_
      dsimp only
      refine ⟨v, rfl, .ref D, rfl, .str e.1, rfl, D, _, rfl, .k (k := Sum.inr e.1) hD2 (lt_line' (by omega)), ?_⟩
      rw [putK_new _ (hp2.none_of out)]
      have hh := held_dk (o := .dK (ks ++ [(Sum.inr e.1, v)])) hD2
      refine ⟨_, _, _, _, _, rfl, upd_same, ?_, (sm.trans s02).mut hD⟩
      rw [take_next he]
      exact (hp2.held hh).app (IsT.held hh _ _ hv)
    · obtain ⟨s3, s4, s5, s6, ks, rfl, hD1, hp1, sm⟩ := hP
      rw [List.length_map, lr, List.take_length] at hp1
      refine ⟨.ref C_Library, rfl, rfl, .ref D, rfl, ?_⟩
      exact make_lib hD1 hp1 fL fun N y H2 pm so s5 hN => q N y H2 pm so (sm.trans s5) hN
end


end My
namespace My
open PySem PySem.Spec PyProof.Rows L2 TL
set_option pp.maxSteps 400
set_option pp.deepTerms false
set_option pp.maxSteps 6000
theorem sql_extN {K : PySem.W.Frag} {H H' : Hp} {a : Addr} {xs : List V} (e : LamX.ExtN H H') (h : SqL K H a xs) : SqL K H' a xs := by
  rcases h with (h | ⟨o, h⟩) | h
  · exact .inl (.inl (e _ _ h fun _ z => nomatch z))
  · exact .inl (.inr ⟨o, e _ _ h fun _ z => nomatch z⟩)
  · exact .inr h
theorem extN_of {d : Addr} {H H1 H2 : Hp} (a : LamX.ExtN H H1) (n : H1 d = none) (o : HO) (b : ExtL d (upd H1 d o) H2) : LamX.ExtN H H2 := fun c u h t => by
  have h1 := a c u h t
  have ne := ne_of_none h1 n
  exact b c u ne t (by rw [upd_ne ne]; exact h1)
def sp_lawT (K : PySem.W.Frag) (PT : Addr) : Sp := fun vs H Q _ => ∃ (a : Addr) (ns : List Int), vs = [.ref a] ∧ SqL K H a (ns.map V.int) ∧ ns.length ≤ 63 ∧ LamX.Tabs [(PT, lamQ)] H ∧ ∀ H', Q (.bl true) H'
theorem cells_sixT {n : Nat} : ∀ j : Int, j = (if (if (n : Int) < 6 then (n : Int) else 6) > 1 then (if (n : Int) < 6 then (n : Int) else 6) else 1) → 1 ≤ j ∧ j ≤ 6 := by
  intro j e
  split at e <;> split at e <;> omega
def pipeL : Lib := [("f", Ty.mk [Ty.mk [] "a"] "b"), ("g", Ty.mk [Ty.mk [] "b"] "c")]
def nnm : List (Str × Str) := [("a", "n"), ("b", "n"), ("c", "m")]
def toN (a : Str) : Str := (look nnm a).getD Str.empty
def pipeN : Lib := pipeL.map fun e => (e.1, Ty.ren toN e.2)
theorem pipe_fine : pipeL.Fine := (drawn_of (L := pipeL) (by decide +kernel)).fine
theorem pipe_rows : Paired RowOf ["f : a -> b", "g : b -> c"] pipeL := .cons ⟨by decide +kernel, by decide +kernel, by decide +kernel⟩ (.cons ⟨by decide +kernel, by decide +kernel, by decide +kernel⟩ .nil)
theorem pipe_atoms {a : Str} : (∃ e ∈ pipeL, a ∈ e.2.places) ↔ a ∈ (["a", "b", "c"] : List Str) := by
  have h1 : (Ty.mk [Ty.mk [] "a"] "b").places = (["a", "b"] : List Str) := by decide +kernel
  have h2 : (Ty.mk [Ty.mk [] "b"] "c").places = (["b", "c"] : List Str) := by decide +kernel
  constructor
  · rintro ⟨e, he, ha⟩
    rcases List.mem_cons.mp he with rfl | he
    · rw [h1] at ha
      rcases List.mem_cons.mp ha with rfl | ha
      · simp
      · rw [List.mem_singleton.mp ha]
        simp
    · rw [List.mem_singleton.mp he, h2] at ha
      rcases List.mem_cons.mp ha with rfl | ha
      · simp
      · rw [List.mem_singleton.mp ha]
        simp
  · intro h
    rcases List.mem_cons.mp h with rfl | h
    · exact ⟨_, List.mem_cons_self .., by rw [h1]; simp⟩
    rcases List.mem_cons.mp h with rfl | h
    · exact ⟨_, List.mem_cons_self .., by rw [h1]; simp⟩
    · rw [List.mem_singleton.mp h]
      exact ⟨_, List.mem_cons_of_mem _ (List.mem_singleton.mpr rfl), by rw [h2]; simp⟩
theorem toN_at {a : Str} (h : a ∈ (["a", "b", "c"] : List Str)) : look nnm a = some (toN a) ∧ Wd (toN a) := by
  have all : (["a", "b", "c"] : List Str).all (fun a => decide (look nnm a = some (toN a)) && wdB (toN a)) = true := by decide +kernel
  have := List.all_eq_true.mp all a h
  rw [Bool.and_eq_true] at this
  exact ⟨of_decide_eq_true this.1, wdB_wd this.2⟩
section
variable {P : Program} {w : World} {K : PySem.W.Frag} {mg : Str → Option Value} {base : Heap} {C_Type C_Library C_InvalidLibrary : Addr}
theorem ok_law (T : Txt K mg C_Type C_Library) {PT : Addr} (k_Library_read : CmtR P w K mg base C_Library "read" 20 (starSp 1 (sp_Library_read K C_Type C_Library))) (c__law_dice : CalN P w K mg base "_law_dice" 1 ["_law_script", "_law_spot"] (sp__law_dice K)) (p_Library_lines : PrpC P w K mg base C_Library "lines" 1 ["self"] (getSp C_Library "_lines")) (p_Library_names : PrpC P w K mg base C_Library "names" 1 ["self"] (getSp C_Library "_names")) (m_Library_with_atoms : MetC P w K mg base C_Library "with_atoms" 13 ["self", "names"] (sp_Library_with_atoms K C_Type C_Library)) (m_Library_without : MetR P w K mg base C_Library "without" 5 (starSp 1 (sp_Library_without K C_Type C_Library))) (p_Type_text : PrpC P w K mg base C_Type "text" 1 ["self"] (getSp C_Type "_text")) (c__law_right : CalN P w K mg base "_law_right" 16 ["_law_dice_here"] (sp__law_rightT PT)) (k_Type_plain : CmtC P w K mg base C_Type "plain" 6 ["cls", "atom"] (sp_Type_plain K C_Type)) (m_Library___getitem__ : MetC P w K mg base C_Library "__getitem__" 2 ["self", "at"] (sp_Library___getitem__ K C_Type C_Library)) (m_Library_with_partX : MetX P w K mg base C_Library "with_part" 5 ["self", "name", "wanted"] (sp_Library_with_partX K C_Type C_Library C_InvalidLibrary)) {f : Addr} {fd : FuncData} (F : Fun K "law" "law" s_law f fd) : FnOk P w K mg base CX0 21 f fd ["_law_script"] (sp_lawT K PT) := by
  have nd := sc_law.nd
  refine F.ok sc_law (fun vs H Q E h => ?_) (fun cdv A outer s H vs Q E hr h => ?_)
  · obtain ⟨a, ns, rfl, _⟩ := h
    rfl
  · obtain ⟨a, ns, rfl, hS, hn, hT, q⟩ := h
    refine ⟨_, (pss_cons (ps_for PassesOwn.never rfl (pi_range1 (by rfl) T.b_range (pa_cons (pe_callB (call_max2 rfl) (by rfl) T.b_max (by decide +kernel) (pa_cons pe_int (pa_cons (pe_callB (call_min2 rfl) (by rfl) T.b_min (by decide +kernel) (pa_cons pe_int (pa_cons (pe_callB call_len (by rfl) T.b_len (by decide +kernel) (pa_cons (pv 0) pa_nil)) pa_nil))) pa_nil))) pa_nil)) (pg_name (i := 1) nd rfl (.inl rfl)) (pss_cons (ps_set (i := 2) nd rfl (.inl rfl) (pe_callN c__law_dice (hr.mono (by first | decide | omega)) rfl (pa_cons (pv 0) (pa_cons (pv 1) pa_nil))))
      (pss_one (ps_for PassesOwn.never rfl (pi_range1 (by rfl) T.b_range (pa_cons pe_int pa_nil)) (pg_name (i := 3) nd rfl (.inl rfl)) (pss_one (ps_if (pt_not (pt_val (pe_callN c__law_right (hr.mono (by first | decide | omega)) rfl (pa_cons (pv 2) pa_nil)))) (pss_one (ps_ret pe_bl)) pss_nil))))))
      (pss_cons (ps_set (i := 4) nd rfl (.inl rfl) (pe_cmethR k_Library_read (hr.mono (by first | decide | omega)) (pe_glob (v := .ref C_Library) rfl T.c_Library rfl) (pa_cons pe_str (pa_cons pe_str pa_nil))))
      (pss_cons (ps_set (i := 5) nd rfl (.inl rfl) (pe_lst (pa_cons (pe_propC p_Library_lines T.k_Library (hr.mono (by first | decide | omega)) (pe_methC m_Library_with_atoms T.k_Library (hr.mono (by first | decide | omega)) (pv 4) (pa_cons (pe_disp (pps_cons pe_str pe_str (pps_cons pe_str pe_str (pps_cons pe_str pe_str pps_nil))) (by rfl) (by rfl) (fun z => by cases z) (by decide)) pa_nil))) (pa_cons (pe_propC p_Library_names T.k_Library (hr.mono (by first | decide | omega)) (pe_methR m_Library_without T.k_Library (hr.mono (by first | decide | omega)) (pv 4) (pa_cons pe_str pa_nil))) pa_nil))))
      (pss_one (ps_ret (pe_and (pe_cmpR (op_eqD hr.units) (pv 5) (pe_lst (pa_cons (pe_tup (pa_cons pe_str (pa_cons pe_str pa_nil))) (pa_cons (pe_tup (pa_cons pe_str pa_nil)) pa_nil))) (nomark _)) (pe_one (pe_cmpR op_eq (pe_propC p_Type_text T.k_Type (hr.mono (by first | decide | omega)) (pe_ixO m_Library___getitem__ (hr.mono (by first | decide | omega)) (pe_methX m_Library_with_partX T.k_Library (hr.mono (by first | decide | omega)) passE0 (pv 4) (pa_cons pe_str (pa_cons (pe_cmethC k_Type_plain (hr.mono (by first | decide | omega)) (pe_glob (v := .ref C_Type) rfl T.c_Type rfl) (pa_cons pe_str pa_nil)) pa_nil))) pe_str T.x_Library.fn_getitem)) pe_str (nomark _))))))))), ?_⟩
    obtain ⟨j1, j2⟩ := cells_sixT (n := ns.length) _ rfl
    refine cut_for (fun σ' H' => ∃ s1 s2 s3, σ' = [some (.ref a), s1, s2, s3, none, none]) (fun Nx hN => ?_) ?_
    · refine ⟨.ref a, rfl, .ref a, _, rfl, .inl ⟨_, hS, rfl⟩, 6, _, rfl, 1, _, rfl, _, rfl, ?_, ?_, ?_⟩
      · rw [List.length_map]
        omega
      · rw [List.length_map]
        omega
      rw [List.length_map]
      refine for_range (lo := 0) (fun i σ H' => (∃ s1 s2 s3, σ = [some (.ref a), s1, s2, s3, none, none]) ∧ LamX.ExtN H H' ∧ LamX.Tabs [(PT, lamQ)] H') ?_ (fun i σ H1 hi hP => ?_) (fun σ H1 hP => ?_)
      · exact ⟨⟨_, _, _, rfl⟩, LamX.ExtN.refl H, hT⟩
      · obtain ⟨⟨s1, s2, s3, rfl⟩, eN, tb⟩ := hP
        refine ⟨.ref a, rfl, _, rfl, a, ns, _, rfl, sql_extN eN hS, by omega, by omega, fun d o hd dd => ?_⟩
        have sd : Same H1 (upd H1 d o) := (Same.refl H1).new hd
        refine ⟨4, rfl, by decide, by decide, for_range (lo := 0) (fun j σ H' => (∃ s1 s3, σ = [some (.ref a), s1, some (.ref d), s3, none, none]) ∧ ExtL d (upd H1 d o) H' ∧ IsDice H' d ∧ LamX.Tabs [(PT, lamQ)] H') ?_ (fun j σ H2 hj hP => ?_) (fun σ H2 hP => ?_)⟩
        · exact ⟨⟨_, _, rfl⟩, ExtL.refl _, dd, tb.ext sd⟩
        · obtain ⟨⟨s1, s3, rfl⟩, far, d2, t2⟩ := hP
          refine ⟨.ref d, rfl, d, rfl, d2, t2, fun H3 e3 d3 t3 => ?_⟩
          refine ⟨true, rfl, iteF ?_⟩
          exact ⟨⟨_, _, rfl⟩, far.trans e3, d3, t3⟩
        · obtain ⟨⟨s1, s3, rfl⟩, far, d2, t2⟩ := hP
          exact ⟨⟨_, _, _, rfl⟩, extN_of eN hd o far, t2⟩
      · obtain ⟨h, _⟩ := hP
        exact hN _ _ h
    rintro σ' G0 ⟨s1, s2, s3, rfl⟩
    have ndP := pipe_fine.nodup
    refine cut_set (fun v H' => ∃ x, v = .ref x ∧ IsL C_Type C_Library H' pipeL (.ref x)) (fun Q' q' => ?_) ?_
    · refine ⟨rfl, [.ref C_Library], [.str "f : a -> b", .str "g : b -> c"], rfl, rfl, by show 2 ≤ sizeLine; decide, fun p hp => ⟨p, ["f : a -> b", "g : b -> c"], pipeL, rfl, upd_same, pipe_rows, pipe_fine, fun N y H' pm so s hl => ?_⟩⟩
      rw [lib_sorted ndP (List.Perm.refl pipeL) (by decide +kernel) pm so] at hl
      exact q' _ _ ⟨y, rfl, hl⟩
    rintro v G1 ⟨x, rfl, hL⟩
    refine cut_set (fun v H' => ∃ pl q1 q2, v = .ref pl ∧ H' pl = some (.lst [.ref q1, .ref q2]) ∧ H' q1 = some (.tup [.str "f : n -> n", .str "g : n -> m"]) ∧ H' q2 = some (.tup [.str "f"]) ∧ IsL C_Type C_Library H' pipeL (.ref x)) (fun Q' q' => ?_) ?_
    · obtain ⟨xa, dx, px, qx, rx, ex, hx⟩ := isL_ins hL
      cases ex
      refine ⟨.ref x, rfl, x, dx, _, rfl, hx, rfl, fun dd hdd => ⟨upd_same, nnm.map kvOf, rfl, by decide, ?_⟩⟩
      have em : mergeK [] (nnm.map kvOf) = nnm.map kvOf := merge_new nnm [] (by decide +kernel)
      rw [em]
      have s1 := ((Same.refl G1).new (o := .dK []) hdd).mut (o := .dK (nnm.map kvOf)) hdd
      refine ⟨.ref x, dd, nnm, toN, pipeL, rfl, hL.same s1, pipe_fine, fun e he => ?_, upd_same, fun ys nd mem => ?_, fun e he a ha => toN_at (pipe_atoms.mp ⟨e, he, ha⟩), fun N x2 G2 pm so s2 hx2 => ?_⟩
      · have all : pipeL.all (fun e => decide (e.2.places.length ≤ 7)) = true := by decide +kernel
        exact of_decide_eq_true (List.all_eq_true.mp all e he)
      · exact ((List.perm_ext_iff_of_nodup (show (["a", "b", "c"] : List Str).Nodup by decide +kernel) nd).mpr fun a => pipe_atoms.symm.trans (mem a).symm).length_eq
      rw [lib_sorted (U := pipeN) (N := pipeN) (by decide +kernel) (List.Perm.refl pipeN) (by decide +kernel) pm so] at hx2
      obtain ⟨x2', dx2, dp2, px2, qx2, kv2, ex, hi2, hdp2, hpp2, hnn2, hll2⟩ := id hx2
      cases ex
      rw [show (Lib.lines pipeN) = (["f : n -> n", "g : n -> m"] : List Str) by decide +kernel] at hll2
      have s12 := s1.trans s2
      refine ⟨x2, dx2, _, rfl, hi2, x2, dx2, _, .ref qx2, rfl, hi2, rfl, ?_⟩
      have hL2 := hL.same s12
      refine ⟨.ref x, rfl, x, dx, _, rfl, s12 _ _ hx, rfl, [.ref x], [.str "g"], rfl, rfl, by show 1 ≤ sizeLine; decide, fun pp hpp => ?_⟩
      have s3 := (Same.refl G2).new (o := .tup [V.str "g"]) hpp
      refine ⟨.ref x, pp, pipeL, ["g"], rfl, hL2.same s3, pipe_fine, upd_same, fun n hn => by rw [List.mem_singleton.mp hn]; decide +kernel, fun N3 x3 G3 pm3 so3 s4 hx3 => ?_⟩
      have e3 : (pipeL.filter fun e => !decide (e.1 ∈ (["g"] : List Str))) = ([("f", Ty.mk [Ty.mk [] "a"] "b")] : Lib) := rfl
      rw [e3] at pm3
      rw [List.perm_singleton.mp pm3] at hx3
      obtain ⟨x3', dx3, dp3, px3, qx3, kv3, ex, hi3, hdp3, hpp3, hnn3, hll3⟩ := id hx3
      cases ex
      have s34 := s3.trans s4
      refine ⟨x3, dx3, _, rfl, hi3, x3, dx3, _, .ref px3, rfl, hi3, rfl, by show 2 ≤ sizeLine; decide, fun pl hpl => ?_⟩
      have s5 := (Same.refl G3).new (o := .lst [.ref qx2, .ref px3]) hpl
      exact q' _ _ ⟨pl, qx2, px3, rfl, upd_same, s5 _ _ (s34 _ _ hll2), s5 _ _ hnn3, (hL2.same s34).same s5⟩
    rintro v G2 ⟨pl, q1, q2, rfl, hpl, hq1, hq2, hL2⟩
    refine ⟨.ref pl, rfl, by show 2 ≤ sizeLine; decide, fun r1 h1 => ⟨by show 1 ≤ sizeLine; decide, fun r2 h2 => ⟨by show 2 ≤ sizeLine; decide, fun r3 h3 => ?_⟩⟩⟩
    have n1 := (Same.refl G2).new (o := .tup [V.str "f : n -> n", .str "g : n -> m"]) h1
    have n2 := n1.new (o := .tup [V.str "f"]) h2
    have n3 := n2.new (o := .lst [.ref r1, .ref r2]) h3
    have hr1 := (((Same.refl _).new h2).new (o := .lst [.ref r1, .ref r2]) h3) _ _ (upd_same (H := G2) (a := r1) (o := .tup [V.str "f : n -> n", .str "g : n -> m"]))
    have hr2 := ((Same.refl _).new (o := .lst [.ref r1, .ref r2]) h3) _ _ (upd_same (H := upd G2 r1 (.tup [V.str "f : n -> n", .str "g : n -> m"])) (a := r2) (o := .tup [V.str "f"]))
    refine ⟨.list [.tuple [.str "f : n -> n", .str "g : n -> m"], .tuple [.str "f"]], .list [.tuple [.str "f : n -> n", .str "g : n -> m"], .tuple [.str "f"]], .lst (SqL.of (n3 _ _ hpl)) (.cons (.tup (SqT.of (n3 _ _ hq1)) (dp_textsN ["f : n -> n", "g : n -> m"])) (.cons (.tup (SqT.of (n3 _ _ hq2)) (dp_textsN ["f"])) .nil)), .lst (SqL.of upd_same) (.cons (.tup (SqT.of hr1) (dp_textsN ["f : n -> n", "g : n -> m"])) (.cons (.tup (SqT.of hr2) (dp_textsN ["f"])) .nil)), by decide +kernel, by decide +kernel, ?_⟩
    rw [show PyData.eqv (.list [.tuple [.str "f : n -> n", .str "g : n -> m"], .tuple [.str "f"]]) (.list [.tuple [.str "f : n -> n", .str "g : n -> m"], .tuple [.str "f"]]) = true by decide +kernel]
    refine ⟨true, rfl, iteT ?_⟩
    have hL3 := hL2.same n3
    generalize upd (upd (upd G2 r1 (.tup [V.str "f : n -> n", .str "g : n -> m"])) r2 (.tup [V.str "f"])) r3 (.lst [.ref r1, .ref r2]) = G3 at hL3
    obtain ⟨xa, dx, px, qx, rx, ex, hx⟩ := isL_ins hL3
    cases ex
    have wa : Wd "a" := wdB_wd (by decide +kernel)
    have fa : (Ty.mk [] "a").Fits := (fit0 wa).1
    refine ⟨.ref x, rfl, x, dx, _, rfl, hx, rfl, rfl, "a", rfl, fa, fun y G4 s4 hy => ?_⟩
    have lP : (Lib.putL pipeL ("f", Ty.mk [] "a")).length ≤ 8 := by
      have := Lib.putL_lenW pipeL ("f", Ty.mk [] "a")
      have : pipeL.length = 2 := rfl
      omega
    refine ⟨.ref x, "f", .ref y, Ty.mk [] "a", pipeL, rfl, hL3.same s4, hy, pipe_fine, wdB_wd (by decide +kernel), fa, fun l8 N x2 G5 pm so s5 hx2 => ?_, fun l8 _ _ => absurd lP l8⟩
    obtain ⟨x2', dx2, dp2, px2, qx2, kv2, ex, hi2, _⟩ := id hx2
    cases ex
    have ndU := Lib.putL_nodup ndP ("f", Ty.mk [] "a")
    have gf : Lib.get N "f" = some (Ty.mk [] "a") := (Lib.get_perm pm ndU "f").trans (Lib.get_mem (e := ("f", Ty.mk [] "a")) ndU (Lib.mem_putL.mpr (.inl rfl)))
    refine ⟨x2, dx2, _, rfl, hi2, .ref x2, "f", Ty.mk [] "a", N, rfl, hx2, gf, fun u hu => ?_⟩
    obtain ⟨b, db, _, _, _, rfl, hb, _⟩ := hu.at
    refine ⟨b, db, _, rfl, hb, b, db, _, .str (Ty.mk [] "a").text, rfl, hb, rfl, rfl, ?_⟩
    rw [show (Ty.mk [] "a").text = "a" by decide +kernel]
    exact q _
end


end My
namespace My
open PySem PySem.Spec PyProof.Rows L2 TL
theorem all_mk {l : PySem.W.OpenLaw} {w : World} {K : PySem.W.Frag} {h : Heap} {mg : Str → Option Value} {fa : Addr} (X : K.In h) (G : h.Ns mainGlobals mg) (hfa : mg "law" = some (.ref fa)) {ts : List Addr} (tabs : ∀ P ∈ ts, h.get? P = some (PySem.W.tabObj #[]))
     {C_Type : Addr} {C_Library : Addr} {f_is_word : Addr} {od_is_word an_is_word : Option Addr} {sl_is_word : Array (Option Value)} {oc_is_word kV_is_word dc_is_word pm_is_word cd_is_word ct_is_word : Value} {f__are_parts : Addr} {od__are_parts an__are_parts : Option Addr} {sl__are_parts : Array (Option Value)} {oc__are_parts kV__are_parts dc__are_parts pm__are_parts cd__are_parts ct__are_parts : Value} {f_Type_text : Addr} {od_Type_text an_Type_text : Option Addr} {sl_Type_text : Array (Option Value)} {oc_Type_text kV_Type_text dc_Type_text pm_Type_text cd_Type_text ct_Type_text : Value} {p_Type_text : Addr} {rs_Type_text : List Value} {f_Library___init__ : Addr} {od_Library___init__ an_Library___init__ : Option Addr} {sl_Library___init__ : Array (Option Value)} {oc_Library___init__ kV_Library___init__ dc_Library___init__ pm_Library___init__ cd_Library___init__ ct_Library___init__ : Value} {td_Library___init__ : Addr} {toc_Library___init__ : Value} {tod_Library___init__ : Option Addr} {tn_Library___init__ : _} {tsl_Library___init__ : Array (Option Value)} {f_Library_parts : Addr} {od_Library_parts an_Library_parts : Option Addr} {sl_Library_parts : Array (Option Value)} {oc_Library_parts kV_Library_parts dc_Library_parts pm_Library_parts cd_Library_parts ct_Library_parts : Value} {p_Library_parts : Addr} {rs_Library_parts : List Value} {f_Library___contains__ : Addr} {od_Library___contains__ an_Library___contains__ : Option Addr} {sl_Library___contains__ : Array (Option Value)} {oc_Library___contains__ kV_Library___contains__ dc_Library___contains__ pm_Library___contains__ cd_Library___contains__ ct_Library___contains__ : Value} {f_Library___getitem__ : Addr} {od_Library___getitem__ an_Library___getitem__ : Option Addr} {sl_Library___getitem__ : Array (Option Value)} {oc_Library___getitem__ kV_Library___getitem__ dc_Library___getitem__ pm_Library___getitem__ cd_Library___getitem__ ct_Library___getitem__ : Value} {f_Type___eq__ : Addr} {od_Type___eq__ an_Type___eq__ : Option Addr} {sl_Type___eq__ : Array (Option Value)} {oc_Type___eq__ kV_Type___eq__ dc_Type___eq__ pm_Type___eq__ cd_Type___eq__ ct_Type___eq__ : Value} {f_Library___or__ : Addr} {od_Library___or__ an_Library___or__ : Option Addr} {sl_Library___or__ : Array (Option Value)} {oc_Library___or__ kV_Library___or__ dc_Library___or__ pm_Library___or__ cd_Library___or__ ct_Library___or__ : Value} {f_Library_with_part : Addr} {od_Library_with_part an_Library_with_part : Option Addr} {sl_Library_with_part : Array (Option Value)} {oc_Library_with_part kV_Library_with_part dc_Library_with_part pm_Library_with_part cd_Library_with_part ct_Library_with_part : Value} {f__law_got : Addr} {od__law_got an__law_got : Option Addr} {sl__law_got : Array (Option Value)} {oc__law_got kV__law_got dc__law_got pm__law_got cd__law_got ct__law_got : Value} {f__pieces : Addr} {od__pieces an__pieces : Option Addr} {sl__pieces : Array (Option Value)} {oc__pieces kV__pieces dc__pieces pm__pieces cd__pieces ct__pieces : Value} {f__is_tuple_of_types : Addr} {od__is_tuple_of_types an__is_tuple_of_types : Option Addr} {sl__is_tuple_of_types : Array (Option Value)} {oc__is_tuple_of_types kV__is_tuple_of_types dc__is_tuple_of_types pm__is_tuple_of_types cd__is_tuple_of_types ct__is_tuple_of_types : Value} {f_Type_order : Addr} {od_Type_order an_Type_order : Option Addr} {sl_Type_order : Array (Option Value)} {oc_Type_order kV_Type_order dc_Type_order pm_Type_order cd_Type_order ct_Type_order : Value} {p_Type_order : Addr} {rs_Type_order : List Value} {f_Type_inputs : Addr} {od_Type_inputs an_Type_inputs : Option Addr} {sl_Type_inputs : Array (Option Value)} {oc_Type_inputs kV_Type_inputs dc_Type_inputs pm_Type_inputs cd_Type_inputs ct_Type_inputs : Value} {p_Type_inputs : Addr} {rs_Type_inputs : List Value} {f__text_inside : Addr} {od__text_inside an__text_inside : Option Addr} {sl__text_inside : Array (Option Value)} {oc__text_inside kV__text_inside dc__text_inside pm__text_inside cd__text_inside ct__text_inside : Value} {f_Type___init__ : Addr} {od_Type___init__ an_Type___init__ : Option Addr} {sl_Type___init__ : Array (Option Value)} {oc_Type___init__ kV_Type___init__ dc_Type___init__ pm_Type___init__ cd_Type___init__ ct_Type___init__ : Value} {f_Type_plain : Addr} {od_Type_plain an_Type_plain : Option Addr} {sl_Type_plain : Array (Option Value)} {oc_Type_plain kV_Type_plain dc_Type_plain pm_Type_plain cd_Type_plain ct_Type_plain : Value} {p_Type_plain : Addr} {rs_Type_plain : List Value} {f__read_freely : Addr} {od__read_freely an__read_freely : Option Addr} {sl__read_freely : Array (Option Value)} {oc__read_freely kV__read_freely dc__read_freely pm__read_freely cd__read_freely ct__read_freely : Value} {f__read_piece : Addr} {od__read_piece an__read_piece : Option Addr} {sl__read_piece : Array (Option Value)} {oc__read_piece kV__read_piece dc__read_piece pm__read_piece cd__read_piece ct__read_piece : Value} {f_Type_read : Addr} {od_Type_read an_Type_read : Option Addr} {sl_Type_read : Array (Option Value)} {oc_Type_read kV_Type_read dc_Type_read pm_Type_read cd_Type_read ct_Type_read : Value} {p_Type_read : Addr} {rs_Type_read : List Value} {f__read_line : Addr} {od__read_line an__read_line : Option Addr} {sl__read_line : Array (Option Value)} {oc__read_line kV__read_line dc__read_line pm__read_line cd__read_line ct__read_line : Value} {f_Library_read : Addr} {od_Library_read an_Library_read : Option Addr} {sl_Library_read : Array (Option Value)} {oc_Library_read kV_Library_read dc_Library_read pm_Library_read cd_Library_read ct_Library_read : Value} {p_Library_read : Addr} {rs_Library_read : List Value} {f__law_dice : Addr} {od__law_dice an__law_dice : Option Addr} {sl__law_dice : Array (Option Value)} {oc__law_dice kV__law_dice dc__law_dice pm__law_dice cd__law_dice ct__law_dice : Value} {f_Library_lines : Addr} {od_Library_lines an_Library_lines : Option Addr} {sl_Library_lines : Array (Option Value)} {oc_Library_lines kV_Library_lines dc_Library_lines pm_Library_lines cd_Library_lines ct_Library_lines : Value} {p_Library_lines : Addr} {rs_Library_lines : List Value} {f_Library_names : Addr} {od_Library_names an_Library_names : Option Addr} {sl_Library_names : Array (Option Value)} {oc_Library_names kV_Library_names dc_Library_names pm_Library_names cd_Library_names ct_Library_names : Value} {p_Library_names : Addr} {rs_Library_names : List Value} {f__are_words : Addr} {od__are_words an__are_words : Option Addr} {sl__are_words : Array (Option Value)} {oc__are_words kV__are_words dc__are_words pm__are_words cd__are_words ct__are_words : Value} {f__is_renaming : Addr} {od__is_renaming an__is_renaming : Option Addr} {sl__is_renaming : Array (Option Value)} {oc__is_renaming kV__is_renaming dc__is_renaming pm__is_renaming cd__is_renaming ct__is_renaming : Value} {f_Type_atoms : Addr} {od_Type_atoms an_Type_atoms : Option Addr} {sl_Type_atoms : Array (Option Value)} {oc_Type_atoms kV_Type_atoms dc_Type_atoms pm_Type_atoms cd_Type_atoms ct_Type_atoms : Value} {p_Type_atoms : Addr} {rs_Type_atoms : List Value} {f_Type_renamed : Addr} {od_Type_renamed an_Type_renamed : Option Addr} {sl_Type_renamed : Array (Option Value)} {oc_Type_renamed kV_Type_renamed dc_Type_renamed pm_Type_renamed cd_Type_renamed ct_Type_renamed : Value} {f_Library_atoms : Addr} {od_Library_atoms an_Library_atoms : Option Addr} {sl_Library_atoms : Array (Option Value)} {oc_Library_atoms kV_Library_atoms dc_Library_atoms pm_Library_atoms cd_Library_atoms ct_Library_atoms : Value} {p_Library_atoms : Addr} {rs_Library_atoms : List Value} {f_Library_with_atoms : Addr} {od_Library_with_atoms an_Library_with_atoms : Option Addr} {sl_Library_with_atoms : Array (Option Value)} {oc_Library_with_atoms kV_Library_with_atoms dc_Library_with_atoms pm_Library_with_atoms cd_Library_with_atoms ct_Library_with_atoms : Value} {f_Library__check_names : Addr} {od_Library__check_names an_Library__check_names : Option Addr} {sl_Library__check_names : Array (Option Value)} {oc_Library__check_names kV_Library__check_names dc_Library__check_names pm_Library__check_names cd_Library__check_names ct_Library__check_names : Value} {f_Library_without : Addr} {od_Library_without an_Library_without : Option Addr} {sl_Library_without : Array (Option Value)} {oc_Library_without kV_Library_without dc_Library_without pm_Library_without cd_Library_without ct_Library_without : Value} {f__law_roll : Addr} {od__law_roll an__law_roll : Option Addr} {sl__law_roll : Array (Option Value)} {oc__law_roll kV__law_roll dc__law_roll pm__law_roll cd__law_roll ct__law_roll : Value} {f__law_pick : Addr} {od__law_pick an__law_pick : Option Addr} {sl__law_pick : Array (Option Value)} {oc__law_pick kV__law_pick dc__law_pick pm__law_pick cd__law_pick ct__law_pick : Value} {f__law_some : Addr} {od__law_some an__law_some : Option Addr} {sl__law_some : Array (Option Value)} {oc__law_some kV__law_some dc__law_some pm__law_some cd__law_some ct__law_some : Value} {f__law_known_library : Addr} {od__law_known_library an__law_known_library : Option Addr} {sl__law_known_library : Array (Option Value)} {oc__law_known_library kV__law_known_library dc__law_known_library pm__law_known_library cd__law_known_library ct__law_known_library : Value} {f__law_atoms_of : Addr} {od__law_atoms_of an__law_atoms_of : Option Addr} {sl__law_atoms_of : Array (Option Value)} {oc__law_atoms_of kV__law_atoms_of dc__law_atoms_of pm__law_atoms_of cd__law_atoms_of ct__law_atoms_of : Value} {f__law_kind : Addr} {od__law_kind an__law_kind : Option Addr} {sl__law_kind : Array (Option Value)} {oc__law_kind kV__law_kind dc__law_kind pm__law_kind cd__law_kind ct__law_kind : Value} {f__law_library : Addr} {od__law_library an__law_library : Option Addr} {sl__law_library : Array (Option Value)} {oc__law_library kV__law_library dc__law_library pm__law_library cd__law_library ct__law_library : Value} {f__law_made_kind : Addr} {od__law_made_kind an__law_made_kind : Option Addr} {sl__law_made_kind : Array (Option Value)} {oc__law_made_kind kV__law_made_kind dc__law_made_kind pm__law_made_kind cd__law_made_kind ct__law_made_kind : Value} {f__law_made : Addr} {od__law_made an__law_made : Option Addr} {sl__law_made : Array (Option Value)} {oc__law_made kV__law_made dc__law_made pm__law_made cd__law_made ct__law_made : Value} {f__law_library_atoms : Addr} {od__law_library_atoms an__law_library_atoms : Option Addr} {sl__law_library_atoms : Array (Option Value)} {oc__law_library_atoms kV__law_library_atoms dc__law_library_atoms pm__law_library_atoms cd__law_library_atoms ct__law_library_atoms : Value} {f_Library_renamed : Addr} {od_Library_renamed an_Library_renamed : Option Addr} {sl_Library_renamed : Array (Option Value)} {oc_Library_renamed kV_Library_renamed dc_Library_renamed pm_Library_renamed cd_Library_renamed ct_Library_renamed : Value} {f__law_atoms_put : Addr} {od__law_atoms_put an__law_atoms_put : Option Addr} {sl__law_atoms_put : Array (Option Value)} {oc__law_atoms_put kV__law_atoms_put dc__law_atoms_put pm__law_atoms_put cd__law_atoms_put ct__law_atoms_put : Value} {f_Library___eq__ : Addr} {od_Library___eq__ an_Library___eq__ : Option Addr} {sl_Library___eq__ : Array (Option Value)} {oc_Library___eq__ kV_Library___eq__ dc_Library___eq__ pm_Library___eq__ cd_Library___eq__ ct_Library___eq__ : Value} {f__law_names_step : Addr} {od__law_names_step an__law_names_step : Option Addr} {sl__law_names_step : Array (Option Value)} {oc__law_names_step kV__law_names_step dc__law_names_step pm__law_names_step cd__law_names_step ct__law_names_step : Value} {f_Library_only : Addr} {od_Library_only an_Library_only : Option Addr} {sl_Library_only : Array (Option Value)} {oc_Library_only kV_Library_only dc_Library_only pm_Library_only cd_Library_only ct_Library_only : Value} {f__law_step : Addr} {od__law_step an__law_step : Option Addr} {sl__law_step : Array (Option Value)} {oc__law_step kV__law_step dc__law_step pm__law_step ct__law_step : Value} {f__law_text : Addr} {od__law_text an__law_text : Option Addr} {sl__law_text : Array (Option Value)} {oc__law_text kV__law_text dc__law_text pm__law_text cd__law_text ct__law_text : Value} {f__law_lines : Addr} {od__law_lines an__law_lines : Option Addr} {sl__law_lines : Array (Option Value)} {oc__law_lines kV__law_lines dc__law_lines pm__law_lines cd__law_lines ct__law_lines : Value} {f__law_right : Addr} {od__law_right an__law_right : Option Addr} {sl__law_right : Array (Option Value)} {oc__law_right kV__law_right dc__law_right pm__law_right cd__law_right ct__law_right : Value} {f_law : Addr} {od_law an_law : Option Addr} {sl_law : Array (Option Value)} {oc_law kV_law dc_law pm_law cd_law ct_law : Value} {t_MAX_LETTERS : Tok} {t_MAX_PLACES : Tok} {t_MAX_ORDER : Tok} {t__ARROW : Tok} {t_MAX_PARTS : Tok} {t__COLON : Tok} {C_InvalidOperation : Addr} {C_InvalidLibrary : Addr} {c_tab PT : Addr} {tcl : Value} {tod : Option Addr} {tvs : Array Value} {tsl : Array (Option Value)}
    (aC_Type : PySem.W.nsIn K mainGlobals "Type" = some (some (.ref C_Type)))
    (pg_Type : PySem.W.plainGet K C_Type Str.empty = true)
    (hd_Type : PySem.W.hasDictIn K C_Type = true)
    (po_Type : PySem.W.plainOver K C_Type = true)
    (sa_Type : PySem.W.findIn K (.ref C_Type) "__setattr__" = some (some (.builtin "object.__setattr__")))
    (mk_Type : PySem.W.makesIn K C_Type = true)
    (kc_Type : PySem.W.keepIn K (.ref C_Type) = true)
    (n_inputs_Type : PySem.W.findIn K (.ref C_Type) "_inputs" = some none)
    (n_atom_Type : PySem.W.findIn K (.ref C_Type) "_atom" = some none)
    (n_places_Type : PySem.W.findIn K (.ref C_Type) "_places" = some none)
    (n_order_Type : PySem.W.findIn K (.ref C_Type) "_order" = some none)
    (n_text_Type : PySem.W.findIn K (.ref C_Type) "_text" = some none)
    (fst_Type : PySem.W.selfFirst K C_Type = true)
    (nfs_Type : PySem.W.notFirst K C_Type (.ref C_Type) = true)
    (ni_str_Type : PySem.W.subIn K (.ref C_Type) (.type "str") = some false)
    (tyt_Type : PySem.W.typeIn K (.ref C_Type) = some (.type "type"))
    (od_NoneType_Type : PySem.W.subIn K (.type "NoneType") (.ref C_Type) = some false)
    (nf_NoneType_Type : PySem.W.notFirst K C_Type (.type "NoneType") = true)
    (od_int_Type : PySem.W.subIn K (.type "int") (.ref C_Type) = some false)
    (nf_int_Type : PySem.W.notFirst K C_Type (.type "int") = true)
    (od_str_Type : PySem.W.subIn K (.type "str") (.ref C_Type) = some false)
    (nf_str_Type : PySem.W.notFirst K C_Type (.type "str") = true)
    (od_tuple_Type : PySem.W.subIn K (.type "tuple") (.ref C_Type) = some false)
    (nf_tuple_Type : PySem.W.notFirst K C_Type (.type "tuple") = true)
    (od_list_Type : PySem.W.subIn K (.type "list") (.ref C_Type) = some false)
    (nf_list_Type : PySem.W.notFirst K C_Type (.type "list") = true)
    (od_dict_Type : PySem.W.subIn K (.type "dict") (.ref C_Type) = some false)
    (nf_dict_Type : PySem.W.notFirst K C_Type (.type "dict") = true)
    (ne_Type : PySem.W.findIn K (.ref C_Type) "__ne__" = some (some (.builtin "object.__ne__")))
    (un_Type : PySem.W.subIn K (.ref C_Type) (.type "object") = some true)
    (cl1_Type : PySem.W.findIn K (.ref C_Type) "__class__" = some (some (.builtin "object.__class__")))
    (cl2_Type : PySem.W.specialIn K (.builtin "object.__class__") "__get__" = some (some (.builtin "getset_descriptor.__get__")))
    (cl3_Type : PySem.W.takesIn K (.builtin "object.__class__") = some true)
    (cl4_Type : PySem.W.mroIn K C_Type (.type "object") = some true)
    (rd_Type : PySem.W.readsIn K C_Type (.type "type") = true)
    (ga_Type : PySem.W.specialIn K (.ref C_Type) "__getattribute__" = some (some (.builtin "type.__getattribute__")))
    (aC_Library : PySem.W.nsIn K mainGlobals "Library" = some (some (.ref C_Library)))
    (pg_Library : PySem.W.plainGet K C_Library Str.empty = true)
    (hd_Library : PySem.W.hasDictIn K C_Library = true)
    (po_Library : PySem.W.plainOver K C_Library = true)
    (sa_Library : PySem.W.findIn K (.ref C_Library) "__setattr__" = some (some (.builtin "object.__setattr__")))
    (mk_Library : PySem.W.makesIn K C_Library = true)
    (kc_Library : PySem.W.keepIn K (.ref C_Library) = true)
    (n_parts_Library : PySem.W.findIn K (.ref C_Library) "_parts" = some none)
    (n_names_Library : PySem.W.findIn K (.ref C_Library) "_names" = some none)
    (n_lines_Library : PySem.W.findIn K (.ref C_Library) "_lines" = some none)
    (fst_Library : PySem.W.selfFirst K C_Library = true)
    (nfs_Library : PySem.W.notFirst K C_Library (.ref C_Library) = true)
    (ni_str_Library : PySem.W.subIn K (.ref C_Library) (.type "str") = some false)
    (tyt_Library : PySem.W.typeIn K (.ref C_Library) = some (.type "type"))
    (od_NoneType_Library : PySem.W.subIn K (.type "NoneType") (.ref C_Library) = some false)
    (nf_NoneType_Library : PySem.W.notFirst K C_Library (.type "NoneType") = true)
    (od_int_Library : PySem.W.subIn K (.type "int") (.ref C_Library) = some false)
    (nf_int_Library : PySem.W.notFirst K C_Library (.type "int") = true)
    (od_str_Library : PySem.W.subIn K (.type "str") (.ref C_Library) = some false)
    (nf_str_Library : PySem.W.notFirst K C_Library (.type "str") = true)
    (od_tuple_Library : PySem.W.subIn K (.type "tuple") (.ref C_Library) = some false)
    (nf_tuple_Library : PySem.W.notFirst K C_Library (.type "tuple") = true)
    (od_list_Library : PySem.W.subIn K (.type "list") (.ref C_Library) = some false)
    (nf_list_Library : PySem.W.notFirst K C_Library (.type "list") = true)
    (od_dict_Library : PySem.W.subIn K (.type "dict") (.ref C_Library) = some false)
    (nf_dict_Library : PySem.W.notFirst K C_Library (.type "dict") = true)
    (ne_Library : PySem.W.findIn K (.ref C_Library) "__ne__" = some (some (.builtin "object.__ne__")))
    (un_Library : PySem.W.subIn K (.ref C_Library) (.type "object") = some true)
    (cl1_Library : PySem.W.findIn K (.ref C_Library) "__class__" = some (some (.builtin "object.__class__")))
    (cl2_Library : PySem.W.specialIn K (.builtin "object.__class__") "__get__" = some (some (.builtin "getset_descriptor.__get__")))
    (cl3_Library : PySem.W.takesIn K (.builtin "object.__class__") = some true)
    (cl4_Library : PySem.W.mroIn K C_Library (.type "object") = some true)
    (rd_Library : PySem.W.readsIn K C_Library (.type "type") = true)
    (ga_Library : PySem.W.specialIn K (.ref C_Library) "__getattribute__" = some (some (.builtin "type.__getattribute__")))
    (a_is_word : PySem.W.nsIn K mainGlobals "is_word" = some (some (.ref f_is_word)))
    (l_is_word : K.lookup f_is_word = some ⟨oc_is_word, od_is_word, .func (PySem.W.fnOf "is_word" "is_word" (defArgs s_is_word) (defBody s_is_word) (defScope s_is_word) .none kV_is_word dc_is_word pm_is_word an_is_word cd_is_word ct_is_word), sl_is_word⟩)
    (c_is_word : PySem.W.codeIn K cd_is_word "is_word" = true)
    (k_is_word : PySem.W.keepIn K (.ref f_is_word) = true)
    (a__are_parts : PySem.W.nsIn K mainGlobals "_are_parts" = some (some (.ref f__are_parts)))
    (l__are_parts : K.lookup f__are_parts = some ⟨oc__are_parts, od__are_parts, .func (PySem.W.fnOf "_are_parts" "_are_parts" (defArgs s__are_parts) (defBody s__are_parts) (defScope s__are_parts) .none kV__are_parts dc__are_parts pm__are_parts an__are_parts cd__are_parts ct__are_parts), sl__are_parts⟩)
    (c__are_parts : PySem.W.codeIn K cd__are_parts "_are_parts" = true)
    (k__are_parts : PySem.W.keepIn K (.ref f__are_parts) = true)
    (a_Type_text : PySem.W.findIn K (.ref C_Type) "text" = some (some (.ref p_Type_text)))
    (g_Type_text : PySem.W.specialIn K (.ref p_Type_text) "__get__" = some (some (.builtin "property.__get__")))
    (t_Type_text : PySem.W.takesIn K (.ref p_Type_text) = some true)
    (r_Type_text : PySem.W.recIn K p_Type_text "property" = some (.ref f_Type_text :: rs_Type_text))
    (l_Type_text : K.lookup f_Type_text = some ⟨oc_Type_text, od_Type_text, .func (PySem.W.fnOf "text" "Type.text" (defArgs s_Type_text) (defBody s_Type_text) (defScope s_Type_text) .none kV_Type_text dc_Type_text pm_Type_text an_Type_text cd_Type_text ct_Type_text), sl_Type_text⟩)
    (c_Type_text : PySem.W.codeIn K cd_Type_text "Type.text" = true)
    (k_Type_text : PySem.W.keepIn K (.ref f_Type_text) = true)
    (a_Library___init__ : PySem.W.findIn K (.ref C_Library) "__init__" = some (some (.ref f_Library___init__)))
    (i_Library___init__ : PySem.W.isFn K (.ref f_Library___init__) = true)
    (l_Library___init__ : K.lookup f_Library___init__ = some ⟨oc_Library___init__, od_Library___init__, .func (PySem.W.fnOf "__init__" "Library.__init__" (defArgs s_Library___init__) (defBody s_Library___init__) (defScope s_Library___init__) (.ref td_Library___init__) kV_Library___init__ dc_Library___init__ pm_Library___init__ an_Library___init__ cd_Library___init__ ct_Library___init__), sl_Library___init__⟩)
    (lt_Library___init__ : K.lookup td_Library___init__ = some ⟨toc_Library___init__, tod_Library___init__, .seq #[.none] tn_Library___init__, tsl_Library___init__⟩)
    (c_Library___init__ : PySem.W.codeIn K cd_Library___init__ "Library.__init__" = true)
    (k_Library___init__ : PySem.W.keepIn K (.ref f_Library___init__) = true)
    (a_Library_parts : PySem.W.findIn K (.ref C_Library) "parts" = some (some (.ref p_Library_parts)))
    (g_Library_parts : PySem.W.specialIn K (.ref p_Library_parts) "__get__" = some (some (.builtin "property.__get__")))
    (t_Library_parts : PySem.W.takesIn K (.ref p_Library_parts) = some true)
    (r_Library_parts : PySem.W.recIn K p_Library_parts "property" = some (.ref f_Library_parts :: rs_Library_parts))
    (l_Library_parts : K.lookup f_Library_parts = some ⟨oc_Library_parts, od_Library_parts, .func (PySem.W.fnOf "parts" "Library.parts" (defArgs s_Library_parts) (defBody s_Library_parts) (defScope s_Library_parts) .none kV_Library_parts dc_Library_parts pm_Library_parts an_Library_parts cd_Library_parts ct_Library_parts), sl_Library_parts⟩)
    (c_Library_parts : PySem.W.codeIn K cd_Library_parts "Library.parts" = true)
    (k_Library_parts : PySem.W.keepIn K (.ref f_Library_parts) = true)
    (a_Library___contains__ : PySem.W.findIn K (.ref C_Library) "__contains__" = some (some (.ref f_Library___contains__)))
    (i_Library___contains__ : PySem.W.isFn K (.ref f_Library___contains__) = true)
    (l_Library___contains__ : K.lookup f_Library___contains__ = some ⟨oc_Library___contains__, od_Library___contains__, .func (PySem.W.fnOf "__contains__" "Library.__contains__" (defArgs s_Library___contains__) (defBody s_Library___contains__) (defScope s_Library___contains__) .none kV_Library___contains__ dc_Library___contains__ pm_Library___contains__ an_Library___contains__ cd_Library___contains__ ct_Library___contains__), sl_Library___contains__⟩)
    (c_Library___contains__ : PySem.W.codeIn K cd_Library___contains__ "Library.__contains__" = true)
    (k_Library___contains__ : PySem.W.keepIn K (.ref f_Library___contains__) = true)
    (a_Library___getitem__ : PySem.W.findIn K (.ref C_Library) "__getitem__" = some (some (.ref f_Library___getitem__)))
    (i_Library___getitem__ : PySem.W.isFn K (.ref f_Library___getitem__) = true)
    (fi_Library___getitem__ : PySem.W.fnIn K f_Library___getitem__ = true)
    (l_Library___getitem__ : K.lookup f_Library___getitem__ = some ⟨oc_Library___getitem__, od_Library___getitem__, .func (PySem.W.fnOf "__getitem__" "Library.__getitem__" (defArgs s_Library___getitem__) (defBody s_Library___getitem__) (defScope s_Library___getitem__) .none kV_Library___getitem__ dc_Library___getitem__ pm_Library___getitem__ an_Library___getitem__ cd_Library___getitem__ ct_Library___getitem__), sl_Library___getitem__⟩)
    (c_Library___getitem__ : PySem.W.codeIn K cd_Library___getitem__ "Library.__getitem__" = true)
    (k_Library___getitem__ : PySem.W.keepIn K (.ref f_Library___getitem__) = true)
    (a_Type___eq__ : PySem.W.findIn K (.ref C_Type) "__eq__" = some (some (.ref f_Type___eq__)))
    (i_Type___eq__ : PySem.W.isFn K (.ref f_Type___eq__) = true)
    (l_Type___eq__ : K.lookup f_Type___eq__ = some ⟨oc_Type___eq__, od_Type___eq__, .func (PySem.W.fnOf "__eq__" "Type.__eq__" (defArgs s_Type___eq__) (defBody s_Type___eq__) (defScope s_Type___eq__) .none kV_Type___eq__ dc_Type___eq__ pm_Type___eq__ an_Type___eq__ cd_Type___eq__ ct_Type___eq__), sl_Type___eq__⟩)
    (c_Type___eq__ : PySem.W.codeIn K cd_Type___eq__ "Type.__eq__" = true)
    (k_Type___eq__ : PySem.W.keepIn K (.ref f_Type___eq__) = true)
    (a_Library___or__ : PySem.W.findIn K (.ref C_Library) "__or__" = some (some (.ref f_Library___or__)))
    (i_Library___or__ : PySem.W.isFn K (.ref f_Library___or__) = true)
    (l_Library___or__ : K.lookup f_Library___or__ = some ⟨oc_Library___or__, od_Library___or__, .func (PySem.W.fnOf "__or__" "Library.__or__" (defArgs s_Library___or__) (defBody s_Library___or__) (defScope s_Library___or__) .none kV_Library___or__ dc_Library___or__ pm_Library___or__ an_Library___or__ cd_Library___or__ ct_Library___or__), sl_Library___or__⟩)
    (c_Library___or__ : PySem.W.codeIn K cd_Library___or__ "Library.__or__" = true)
    (k_Library___or__ : PySem.W.keepIn K (.ref f_Library___or__) = true)
    (a_Library_with_part : PySem.W.findIn K (.ref C_Library) "with_part" = some (some (.ref f_Library_with_part)))
    (i_Library_with_part : PySem.W.isFn K (.ref f_Library_with_part) = true)
    (l_Library_with_part : K.lookup f_Library_with_part = some ⟨oc_Library_with_part, od_Library_with_part, .func (PySem.W.fnOf "with_part" "Library.with_part" (defArgs s_Library_with_part) (defBody s_Library_with_part) (defScope s_Library_with_part) .none kV_Library_with_part dc_Library_with_part pm_Library_with_part an_Library_with_part cd_Library_with_part ct_Library_with_part), sl_Library_with_part⟩)
    (c_Library_with_part : PySem.W.codeIn K cd_Library_with_part "Library.with_part" = true)
    (k_Library_with_part : PySem.W.keepIn K (.ref f_Library_with_part) = true)
    (a__law_got : PySem.W.nsIn K mainGlobals "_law_got" = some (some (.ref f__law_got)))
    (l__law_got : K.lookup f__law_got = some ⟨oc__law_got, od__law_got, .func (PySem.W.fnOf "_law_got" "_law_got" (defArgs s__law_got) (defBody s__law_got) (defScope s__law_got) .none kV__law_got dc__law_got pm__law_got an__law_got cd__law_got ct__law_got), sl__law_got⟩)
    (c__law_got : PySem.W.codeIn K cd__law_got "_law_got" = true)
    (k__law_got : PySem.W.keepIn K (.ref f__law_got) = true)
    (a__pieces : PySem.W.nsIn K mainGlobals "_pieces" = some (some (.ref f__pieces)))
    (l__pieces : K.lookup f__pieces = some ⟨oc__pieces, od__pieces, .func (PySem.W.fnOf "_pieces" "_pieces" (defArgs s__pieces) (defBody s__pieces) (defScope s__pieces) .none kV__pieces dc__pieces pm__pieces an__pieces cd__pieces ct__pieces), sl__pieces⟩)
    (c__pieces : PySem.W.codeIn K cd__pieces "_pieces" = true)
    (k__pieces : PySem.W.keepIn K (.ref f__pieces) = true)
    (a__is_tuple_of_types : PySem.W.nsIn K mainGlobals "_is_tuple_of_types" = some (some (.ref f__is_tuple_of_types)))
    (l__is_tuple_of_types : K.lookup f__is_tuple_of_types = some ⟨oc__is_tuple_of_types, od__is_tuple_of_types, .func (PySem.W.fnOf "_is_tuple_of_types" "_is_tuple_of_types" (defArgs s__is_tuple_of_types) (defBody s__is_tuple_of_types) (defScope s__is_tuple_of_types) .none kV__is_tuple_of_types dc__is_tuple_of_types pm__is_tuple_of_types an__is_tuple_of_types cd__is_tuple_of_types ct__is_tuple_of_types), sl__is_tuple_of_types⟩)
    (c__is_tuple_of_types : PySem.W.codeIn K cd__is_tuple_of_types "_is_tuple_of_types" = true)
    (k__is_tuple_of_types : PySem.W.keepIn K (.ref f__is_tuple_of_types) = true)
    (a_Type_order : PySem.W.findIn K (.ref C_Type) "order" = some (some (.ref p_Type_order)))
    (g_Type_order : PySem.W.specialIn K (.ref p_Type_order) "__get__" = some (some (.builtin "property.__get__")))
    (t_Type_order : PySem.W.takesIn K (.ref p_Type_order) = some true)
    (r_Type_order : PySem.W.recIn K p_Type_order "property" = some (.ref f_Type_order :: rs_Type_order))
    (l_Type_order : K.lookup f_Type_order = some ⟨oc_Type_order, od_Type_order, .func (PySem.W.fnOf "order" "Type.order" (defArgs s_Type_order) (defBody s_Type_order) (defScope s_Type_order) .none kV_Type_order dc_Type_order pm_Type_order an_Type_order cd_Type_order ct_Type_order), sl_Type_order⟩)
    (c_Type_order : PySem.W.codeIn K cd_Type_order "Type.order" = true)
    (k_Type_order : PySem.W.keepIn K (.ref f_Type_order) = true)
    (a_Type_inputs : PySem.W.findIn K (.ref C_Type) "inputs" = some (some (.ref p_Type_inputs)))
    (g_Type_inputs : PySem.W.specialIn K (.ref p_Type_inputs) "__get__" = some (some (.builtin "property.__get__")))
    (t_Type_inputs : PySem.W.takesIn K (.ref p_Type_inputs) = some true)
    (r_Type_inputs : PySem.W.recIn K p_Type_inputs "property" = some (.ref f_Type_inputs :: rs_Type_inputs))
    (l_Type_inputs : K.lookup f_Type_inputs = some ⟨oc_Type_inputs, od_Type_inputs, .func (PySem.W.fnOf "inputs" "Type.inputs" (defArgs s_Type_inputs) (defBody s_Type_inputs) (defScope s_Type_inputs) .none kV_Type_inputs dc_Type_inputs pm_Type_inputs an_Type_inputs cd_Type_inputs ct_Type_inputs), sl_Type_inputs⟩)
    (c_Type_inputs : PySem.W.codeIn K cd_Type_inputs "Type.inputs" = true)
    (k_Type_inputs : PySem.W.keepIn K (.ref f_Type_inputs) = true)
    (a__text_inside : PySem.W.nsIn K mainGlobals "_text_inside" = some (some (.ref f__text_inside)))
    (l__text_inside : K.lookup f__text_inside = some ⟨oc__text_inside, od__text_inside, .func (PySem.W.fnOf "_text_inside" "_text_inside" (defArgs s__text_inside) (defBody s__text_inside) (defScope s__text_inside) .none kV__text_inside dc__text_inside pm__text_inside an__text_inside cd__text_inside ct__text_inside), sl__text_inside⟩)
    (c__text_inside : PySem.W.codeIn K cd__text_inside "_text_inside" = true)
    (k__text_inside : PySem.W.keepIn K (.ref f__text_inside) = true)
    (a_Type___init__ : PySem.W.findIn K (.ref C_Type) "__init__" = some (some (.ref f_Type___init__)))
    (i_Type___init__ : PySem.W.isFn K (.ref f_Type___init__) = true)
    (l_Type___init__ : K.lookup f_Type___init__ = some ⟨oc_Type___init__, od_Type___init__, .func (PySem.W.fnOf "__init__" "Type.__init__" (defArgs s_Type___init__) (defBody s_Type___init__) (defScope s_Type___init__) .none kV_Type___init__ dc_Type___init__ pm_Type___init__ an_Type___init__ cd_Type___init__ ct_Type___init__), sl_Type___init__⟩)
    (c_Type___init__ : PySem.W.codeIn K cd_Type___init__ "Type.__init__" = true)
    (k_Type___init__ : PySem.W.keepIn K (.ref f_Type___init__) = true)
    (a_Type_plain : PySem.W.findCls K (.ref C_Type) (.type "type") "plain" = some (.get (.builtin "classmethod.__get__") (.ref p_Type_plain) .none (.ref C_Type)))
    (r_Type_plain : PySem.W.recIn K p_Type_plain "classmethod" = some (.ref f_Type_plain :: rs_Type_plain))
    (fi_Type_plain : PySem.W.fnIn K f_Type_plain = true)
    (l_Type_plain : K.lookup f_Type_plain = some ⟨oc_Type_plain, od_Type_plain, .func (PySem.W.fnOf "plain" "Type.plain" (defArgs s_Type_plain) (defBody s_Type_plain) (defScope s_Type_plain) .none kV_Type_plain dc_Type_plain pm_Type_plain an_Type_plain cd_Type_plain ct_Type_plain), sl_Type_plain⟩)
    (c_Type_plain : PySem.W.codeIn K cd_Type_plain "Type.plain" = true)
    (k_Type_plain : PySem.W.keepIn K (.ref f_Type_plain) = true)
    (a__read_freely : PySem.W.nsIn K mainGlobals "_read_freely" = some (some (.ref f__read_freely)))
    (l__read_freely : K.lookup f__read_freely = some ⟨oc__read_freely, od__read_freely, .func (PySem.W.fnOf "_read_freely" "_read_freely" (defArgs s__read_freely) (defBody s__read_freely) (defScope s__read_freely) .none kV__read_freely dc__read_freely pm__read_freely an__read_freely cd__read_freely ct__read_freely), sl__read_freely⟩)
    (c__read_freely : PySem.W.codeIn K cd__read_freely "_read_freely" = true)
    (k__read_freely : PySem.W.keepIn K (.ref f__read_freely) = true)
    (a__read_piece : PySem.W.nsIn K mainGlobals "_read_piece" = some (some (.ref f__read_piece)))
    (l__read_piece : K.lookup f__read_piece = some ⟨oc__read_piece, od__read_piece, .func (PySem.W.fnOf "_read_piece" "_read_piece" (defArgs s__read_piece) (defBody s__read_piece) (defScope s__read_piece) .none kV__read_piece dc__read_piece pm__read_piece an__read_piece cd__read_piece ct__read_piece), sl__read_piece⟩)
    (c__read_piece : PySem.W.codeIn K cd__read_piece "_read_piece" = true)
    (k__read_piece : PySem.W.keepIn K (.ref f__read_piece) = true)
    (a_Type_read : PySem.W.findCls K (.ref C_Type) (.type "type") "read" = some (.get (.builtin "classmethod.__get__") (.ref p_Type_read) .none (.ref C_Type)))
    (r_Type_read : PySem.W.recIn K p_Type_read "classmethod" = some (.ref f_Type_read :: rs_Type_read))
    (fi_Type_read : PySem.W.fnIn K f_Type_read = true)
    (l_Type_read : K.lookup f_Type_read = some ⟨oc_Type_read, od_Type_read, .func (PySem.W.fnOf "read" "Type.read" (defArgs s_Type_read) (defBody s_Type_read) (defScope s_Type_read) .none kV_Type_read dc_Type_read pm_Type_read an_Type_read cd_Type_read ct_Type_read), sl_Type_read⟩)
    (c_Type_read : PySem.W.codeIn K cd_Type_read "Type.read" = true)
    (k_Type_read : PySem.W.keepIn K (.ref f_Type_read) = true)
    (a__read_line : PySem.W.nsIn K mainGlobals "_read_line" = some (some (.ref f__read_line)))
    (l__read_line : K.lookup f__read_line = some ⟨oc__read_line, od__read_line, .func (PySem.W.fnOf "_read_line" "_read_line" (defArgs s__read_line) (defBody s__read_line) (defScope s__read_line) .none kV__read_line dc__read_line pm__read_line an__read_line cd__read_line ct__read_line), sl__read_line⟩)
    (c__read_line : PySem.W.codeIn K cd__read_line "_read_line" = true)
    (k__read_line : PySem.W.keepIn K (.ref f__read_line) = true)
    (a_Library_read : PySem.W.findCls K (.ref C_Library) (.type "type") "read" = some (.get (.builtin "classmethod.__get__") (.ref p_Library_read) .none (.ref C_Library)))
    (r_Library_read : PySem.W.recIn K p_Library_read "classmethod" = some (.ref f_Library_read :: rs_Library_read))
    (fi_Library_read : PySem.W.fnIn K f_Library_read = true)
    (l_Library_read : K.lookup f_Library_read = some ⟨oc_Library_read, od_Library_read, .func (PySem.W.fnOf "read" "Library.read" (defArgs s_Library_read) (defBody s_Library_read) (defScope s_Library_read) .none kV_Library_read dc_Library_read pm_Library_read an_Library_read cd_Library_read ct_Library_read), sl_Library_read⟩)
    (c_Library_read : PySem.W.codeIn K cd_Library_read "Library.read" = true)
    (k_Library_read : PySem.W.keepIn K (.ref f_Library_read) = true)
    (a__law_dice : PySem.W.nsIn K mainGlobals "_law_dice" = some (some (.ref f__law_dice)))
    (l__law_dice : K.lookup f__law_dice = some ⟨oc__law_dice, od__law_dice, .func (PySem.W.fnOf "_law_dice" "_law_dice" (defArgs s__law_dice) (defBody s__law_dice) (defScope s__law_dice) .none kV__law_dice dc__law_dice pm__law_dice an__law_dice cd__law_dice ct__law_dice), sl__law_dice⟩)
    (c__law_dice : PySem.W.codeIn K cd__law_dice "_law_dice" = true)
    (k__law_dice : PySem.W.keepIn K (.ref f__law_dice) = true)
    (a_Library_lines : PySem.W.findIn K (.ref C_Library) "lines" = some (some (.ref p_Library_lines)))
    (g_Library_lines : PySem.W.specialIn K (.ref p_Library_lines) "__get__" = some (some (.builtin "property.__get__")))
    (t_Library_lines : PySem.W.takesIn K (.ref p_Library_lines) = some true)
    (r_Library_lines : PySem.W.recIn K p_Library_lines "property" = some (.ref f_Library_lines :: rs_Library_lines))
    (l_Library_lines : K.lookup f_Library_lines = some ⟨oc_Library_lines, od_Library_lines, .func (PySem.W.fnOf "lines" "Library.lines" (defArgs s_Library_lines) (defBody s_Library_lines) (defScope s_Library_lines) .none kV_Library_lines dc_Library_lines pm_Library_lines an_Library_lines cd_Library_lines ct_Library_lines), sl_Library_lines⟩)
    (c_Library_lines : PySem.W.codeIn K cd_Library_lines "Library.lines" = true)
    (k_Library_lines : PySem.W.keepIn K (.ref f_Library_lines) = true)
    (a_Library_names : PySem.W.findIn K (.ref C_Library) "names" = some (some (.ref p_Library_names)))
    (g_Library_names : PySem.W.specialIn K (.ref p_Library_names) "__get__" = some (some (.builtin "property.__get__")))
    (t_Library_names : PySem.W.takesIn K (.ref p_Library_names) = some true)
    (r_Library_names : PySem.W.recIn K p_Library_names "property" = some (.ref f_Library_names :: rs_Library_names))
    (l_Library_names : K.lookup f_Library_names = some ⟨oc_Library_names, od_Library_names, .func (PySem.W.fnOf "names" "Library.names" (defArgs s_Library_names) (defBody s_Library_names) (defScope s_Library_names) .none kV_Library_names dc_Library_names pm_Library_names an_Library_names cd_Library_names ct_Library_names), sl_Library_names⟩)
    (c_Library_names : PySem.W.codeIn K cd_Library_names "Library.names" = true)
    (k_Library_names : PySem.W.keepIn K (.ref f_Library_names) = true)
    (a__are_words : PySem.W.nsIn K mainGlobals "_are_words" = some (some (.ref f__are_words)))
    (l__are_words : K.lookup f__are_words = some ⟨oc__are_words, od__are_words, .func (PySem.W.fnOf "_are_words" "_are_words" (defArgs s__are_words) (defBody s__are_words) (defScope s__are_words) .none kV__are_words dc__are_words pm__are_words an__are_words cd__are_words ct__are_words), sl__are_words⟩)
    (c__are_words : PySem.W.codeIn K cd__are_words "_are_words" = true)
    (k__are_words : PySem.W.keepIn K (.ref f__are_words) = true)
    (a__is_renaming : PySem.W.nsIn K mainGlobals "_is_renaming" = some (some (.ref f__is_renaming)))
    (l__is_renaming : K.lookup f__is_renaming = some ⟨oc__is_renaming, od__is_renaming, .func (PySem.W.fnOf "_is_renaming" "_is_renaming" (defArgs s__is_renaming) (defBody s__is_renaming) (defScope s__is_renaming) .none kV__is_renaming dc__is_renaming pm__is_renaming an__is_renaming cd__is_renaming ct__is_renaming), sl__is_renaming⟩)
    (c__is_renaming : PySem.W.codeIn K cd__is_renaming "_is_renaming" = true)
    (k__is_renaming : PySem.W.keepIn K (.ref f__is_renaming) = true)
    (a_Type_atoms : PySem.W.findIn K (.ref C_Type) "atoms" = some (some (.ref p_Type_atoms)))
    (g_Type_atoms : PySem.W.specialIn K (.ref p_Type_atoms) "__get__" = some (some (.builtin "property.__get__")))
    (t_Type_atoms : PySem.W.takesIn K (.ref p_Type_atoms) = some true)
    (r_Type_atoms : PySem.W.recIn K p_Type_atoms "property" = some (.ref f_Type_atoms :: rs_Type_atoms))
    (l_Type_atoms : K.lookup f_Type_atoms = some ⟨oc_Type_atoms, od_Type_atoms, .func (PySem.W.fnOf "atoms" "Type.atoms" (defArgs s_Type_atoms) (defBody s_Type_atoms) (defScope s_Type_atoms) .none kV_Type_atoms dc_Type_atoms pm_Type_atoms an_Type_atoms cd_Type_atoms ct_Type_atoms), sl_Type_atoms⟩)
    (c_Type_atoms : PySem.W.codeIn K cd_Type_atoms "Type.atoms" = true)
    (k_Type_atoms : PySem.W.keepIn K (.ref f_Type_atoms) = true)
    (a_Type_renamed : PySem.W.findIn K (.ref C_Type) "renamed" = some (some (.ref f_Type_renamed)))
    (i_Type_renamed : PySem.W.isFn K (.ref f_Type_renamed) = true)
    (l_Type_renamed : K.lookup f_Type_renamed = some ⟨oc_Type_renamed, od_Type_renamed, .func (PySem.W.fnOf "renamed" "Type.renamed" (defArgs s_Type_renamed) (defBody s_Type_renamed) (defScope s_Type_renamed) .none kV_Type_renamed dc_Type_renamed pm_Type_renamed an_Type_renamed cd_Type_renamed ct_Type_renamed), sl_Type_renamed⟩)
    (c_Type_renamed : PySem.W.codeIn K cd_Type_renamed "Type.renamed" = true)
    (k_Type_renamed : PySem.W.keepIn K (.ref f_Type_renamed) = true)
    (a_Library_atoms : PySem.W.findIn K (.ref C_Library) "atoms" = some (some (.ref p_Library_atoms)))
    (g_Library_atoms : PySem.W.specialIn K (.ref p_Library_atoms) "__get__" = some (some (.builtin "property.__get__")))
    (t_Library_atoms : PySem.W.takesIn K (.ref p_Library_atoms) = some true)
    (r_Library_atoms : PySem.W.recIn K p_Library_atoms "property" = some (.ref f_Library_atoms :: rs_Library_atoms))
    (l_Library_atoms : K.lookup f_Library_atoms = some ⟨oc_Library_atoms, od_Library_atoms, .func (PySem.W.fnOf "atoms" "Library.atoms" (defArgs s_Library_atoms) (defBody s_Library_atoms) (defScope s_Library_atoms) .none kV_Library_atoms dc_Library_atoms pm_Library_atoms an_Library_atoms cd_Library_atoms ct_Library_atoms), sl_Library_atoms⟩)
    (c_Library_atoms : PySem.W.codeIn K cd_Library_atoms "Library.atoms" = true)
    (k_Library_atoms : PySem.W.keepIn K (.ref f_Library_atoms) = true)
    (a_Library_with_atoms : PySem.W.findIn K (.ref C_Library) "with_atoms" = some (some (.ref f_Library_with_atoms)))
    (i_Library_with_atoms : PySem.W.isFn K (.ref f_Library_with_atoms) = true)
    (l_Library_with_atoms : K.lookup f_Library_with_atoms = some ⟨oc_Library_with_atoms, od_Library_with_atoms, .func (PySem.W.fnOf "with_atoms" "Library.with_atoms" (defArgs s_Library_with_atoms) (defBody s_Library_with_atoms) (defScope s_Library_with_atoms) .none kV_Library_with_atoms dc_Library_with_atoms pm_Library_with_atoms an_Library_with_atoms cd_Library_with_atoms ct_Library_with_atoms), sl_Library_with_atoms⟩)
    (c_Library_with_atoms : PySem.W.codeIn K cd_Library_with_atoms "Library.with_atoms" = true)
    (k_Library_with_atoms : PySem.W.keepIn K (.ref f_Library_with_atoms) = true)
    (a_Library__check_names : PySem.W.findIn K (.ref C_Library) "_check_names" = some (some (.ref f_Library__check_names)))
    (i_Library__check_names : PySem.W.isFn K (.ref f_Library__check_names) = true)
    (l_Library__check_names : K.lookup f_Library__check_names = some ⟨oc_Library__check_names, od_Library__check_names, .func (PySem.W.fnOf "_check_names" "Library._check_names" (defArgs s_Library__check_names) (defBody s_Library__check_names) (defScope s_Library__check_names) .none kV_Library__check_names dc_Library__check_names pm_Library__check_names an_Library__check_names cd_Library__check_names ct_Library__check_names), sl_Library__check_names⟩)
    (c_Library__check_names : PySem.W.codeIn K cd_Library__check_names "Library._check_names" = true)
    (k_Library__check_names : PySem.W.keepIn K (.ref f_Library__check_names) = true)
    (a_Library_without : PySem.W.findIn K (.ref C_Library) "without" = some (some (.ref f_Library_without)))
    (i_Library_without : PySem.W.isFn K (.ref f_Library_without) = true)
    (l_Library_without : K.lookup f_Library_without = some ⟨oc_Library_without, od_Library_without, .func (PySem.W.fnOf "without" "Library.without" (defArgs s_Library_without) (defBody s_Library_without) (defScope s_Library_without) .none kV_Library_without dc_Library_without pm_Library_without an_Library_without cd_Library_without ct_Library_without), sl_Library_without⟩)
    (c_Library_without : PySem.W.codeIn K cd_Library_without "Library.without" = true)
    (k_Library_without : PySem.W.keepIn K (.ref f_Library_without) = true)
    (a__law_roll : PySem.W.nsIn K mainGlobals "_law_roll" = some (some (.ref f__law_roll)))
    (l__law_roll : K.lookup f__law_roll = some ⟨oc__law_roll, od__law_roll, .func (PySem.W.fnOf "_law_roll" "_law_roll" (defArgs s__law_roll) (defBody s__law_roll) (defScope s__law_roll) .none kV__law_roll dc__law_roll pm__law_roll an__law_roll cd__law_roll ct__law_roll), sl__law_roll⟩)
    (c__law_roll : PySem.W.codeIn K cd__law_roll "_law_roll" = true)
    (k__law_roll : PySem.W.keepIn K (.ref f__law_roll) = true)
    (a__law_pick : PySem.W.nsIn K mainGlobals "_law_pick" = some (some (.ref f__law_pick)))
    (l__law_pick : K.lookup f__law_pick = some ⟨oc__law_pick, od__law_pick, .func (PySem.W.fnOf "_law_pick" "_law_pick" (defArgs s__law_pick) (defBody s__law_pick) (defScope s__law_pick) .none kV__law_pick dc__law_pick pm__law_pick an__law_pick cd__law_pick ct__law_pick), sl__law_pick⟩)
    (c__law_pick : PySem.W.codeIn K cd__law_pick "_law_pick" = true)
    (k__law_pick : PySem.W.keepIn K (.ref f__law_pick) = true)
    (a__law_some : PySem.W.nsIn K mainGlobals "_law_some" = some (some (.ref f__law_some)))
    (l__law_some : K.lookup f__law_some = some ⟨oc__law_some, od__law_some, .func (PySem.W.fnOf "_law_some" "_law_some" (defArgs s__law_some) (defBody s__law_some) (defScope s__law_some) .none kV__law_some dc__law_some pm__law_some an__law_some cd__law_some ct__law_some), sl__law_some⟩)
    (c__law_some : PySem.W.codeIn K cd__law_some "_law_some" = true)
    (k__law_some : PySem.W.keepIn K (.ref f__law_some) = true)
    (a__law_known_library : PySem.W.nsIn K mainGlobals "_law_known_library" = some (some (.ref f__law_known_library)))
    (l__law_known_library : K.lookup f__law_known_library = some ⟨oc__law_known_library, od__law_known_library, .func (PySem.W.fnOf "_law_known_library" "_law_known_library" (defArgs s__law_known_library) (defBody s__law_known_library) (defScope s__law_known_library) .none kV__law_known_library dc__law_known_library pm__law_known_library an__law_known_library cd__law_known_library ct__law_known_library), sl__law_known_library⟩)
    (c__law_known_library : PySem.W.codeIn K cd__law_known_library "_law_known_library" = true)
    (k__law_known_library : PySem.W.keepIn K (.ref f__law_known_library) = true)
    (a__law_atoms_of : PySem.W.nsIn K mainGlobals "_law_atoms_of" = some (some (.ref f__law_atoms_of)))
    (l__law_atoms_of : K.lookup f__law_atoms_of = some ⟨oc__law_atoms_of, od__law_atoms_of, .func (PySem.W.fnOf "_law_atoms_of" "_law_atoms_of" (defArgs s__law_atoms_of) (defBody s__law_atoms_of) (defScope s__law_atoms_of) .none kV__law_atoms_of dc__law_atoms_of pm__law_atoms_of an__law_atoms_of cd__law_atoms_of ct__law_atoms_of), sl__law_atoms_of⟩)
    (c__law_atoms_of : PySem.W.codeIn K cd__law_atoms_of "_law_atoms_of" = true)
    (k__law_atoms_of : PySem.W.keepIn K (.ref f__law_atoms_of) = true)
    (a__law_kind : PySem.W.nsIn K mainGlobals "_law_kind" = some (some (.ref f__law_kind)))
    (l__law_kind : K.lookup f__law_kind = some ⟨oc__law_kind, od__law_kind, .func (PySem.W.fnOf "_law_kind" "_law_kind" (defArgs s__law_kind) (defBody s__law_kind) (defScope s__law_kind) .none kV__law_kind dc__law_kind pm__law_kind an__law_kind cd__law_kind ct__law_kind), sl__law_kind⟩)
    (c__law_kind : PySem.W.codeIn K cd__law_kind "_law_kind" = true)
    (k__law_kind : PySem.W.keepIn K (.ref f__law_kind) = true)
    (a__law_library : PySem.W.nsIn K mainGlobals "_law_library" = some (some (.ref f__law_library)))
    (l__law_library : K.lookup f__law_library = some ⟨oc__law_library, od__law_library, .func (PySem.W.fnOf "_law_library" "_law_library" (defArgs s__law_library) (defBody s__law_library) (defScope s__law_library) .none kV__law_library dc__law_library pm__law_library an__law_library cd__law_library ct__law_library), sl__law_library⟩)
    (c__law_library : PySem.W.codeIn K cd__law_library "_law_library" = true)
    (k__law_library : PySem.W.keepIn K (.ref f__law_library) = true)
    (a__law_made_kind : PySem.W.nsIn K mainGlobals "_law_made_kind" = some (some (.ref f__law_made_kind)))
    (l__law_made_kind : K.lookup f__law_made_kind = some ⟨oc__law_made_kind, od__law_made_kind, .func (PySem.W.fnOf "_law_made_kind" "_law_made_kind" (defArgs s__law_made_kind) (defBody s__law_made_kind) (defScope s__law_made_kind) .none kV__law_made_kind dc__law_made_kind pm__law_made_kind an__law_made_kind cd__law_made_kind ct__law_made_kind), sl__law_made_kind⟩)
    (c__law_made_kind : PySem.W.codeIn K cd__law_made_kind "_law_made_kind" = true)
    (k__law_made_kind : PySem.W.keepIn K (.ref f__law_made_kind) = true)
    (a__law_made : PySem.W.nsIn K mainGlobals "_law_made" = some (some (.ref f__law_made)))
    (l__law_made : K.lookup f__law_made = some ⟨oc__law_made, od__law_made, .func (PySem.W.fnOf "_law_made" "_law_made" (defArgs s__law_made) (defBody s__law_made) (defScope s__law_made) .none kV__law_made dc__law_made pm__law_made an__law_made cd__law_made ct__law_made), sl__law_made⟩)
    (c__law_made : PySem.W.codeIn K cd__law_made "_law_made" = true)
    (k__law_made : PySem.W.keepIn K (.ref f__law_made) = true)
    (a__law_library_atoms : PySem.W.nsIn K mainGlobals "_law_library_atoms" = some (some (.ref f__law_library_atoms)))
    (l__law_library_atoms : K.lookup f__law_library_atoms = some ⟨oc__law_library_atoms, od__law_library_atoms, .func (PySem.W.fnOf "_law_library_atoms" "_law_library_atoms" (defArgs s__law_library_atoms) (defBody s__law_library_atoms) (defScope s__law_library_atoms) .none kV__law_library_atoms dc__law_library_atoms pm__law_library_atoms an__law_library_atoms cd__law_library_atoms ct__law_library_atoms), sl__law_library_atoms⟩)
    (c__law_library_atoms : PySem.W.codeIn K cd__law_library_atoms "_law_library_atoms" = true)
    (k__law_library_atoms : PySem.W.keepIn K (.ref f__law_library_atoms) = true)
    (a_Library_renamed : PySem.W.findIn K (.ref C_Library) "renamed" = some (some (.ref f_Library_renamed)))
    (i_Library_renamed : PySem.W.isFn K (.ref f_Library_renamed) = true)
    (l_Library_renamed : K.lookup f_Library_renamed = some ⟨oc_Library_renamed, od_Library_renamed, .func (PySem.W.fnOf "renamed" "Library.renamed" (defArgs s_Library_renamed) (defBody s_Library_renamed) (defScope s_Library_renamed) .none kV_Library_renamed dc_Library_renamed pm_Library_renamed an_Library_renamed cd_Library_renamed ct_Library_renamed), sl_Library_renamed⟩)
    (c_Library_renamed : PySem.W.codeIn K cd_Library_renamed "Library.renamed" = true)
    (k_Library_renamed : PySem.W.keepIn K (.ref f_Library_renamed) = true)
    (a__law_atoms_put : PySem.W.nsIn K mainGlobals "_law_atoms_put" = some (some (.ref f__law_atoms_put)))
    (l__law_atoms_put : K.lookup f__law_atoms_put = some ⟨oc__law_atoms_put, od__law_atoms_put, .func (PySem.W.fnOf "_law_atoms_put" "_law_atoms_put" (defArgs s__law_atoms_put) (defBody s__law_atoms_put) (defScope s__law_atoms_put) .none kV__law_atoms_put dc__law_atoms_put pm__law_atoms_put an__law_atoms_put cd__law_atoms_put ct__law_atoms_put), sl__law_atoms_put⟩)
    (c__law_atoms_put : PySem.W.codeIn K cd__law_atoms_put "_law_atoms_put" = true)
    (k__law_atoms_put : PySem.W.keepIn K (.ref f__law_atoms_put) = true)
    (a_Library___eq__ : PySem.W.findIn K (.ref C_Library) "__eq__" = some (some (.ref f_Library___eq__)))
    (i_Library___eq__ : PySem.W.isFn K (.ref f_Library___eq__) = true)
    (l_Library___eq__ : K.lookup f_Library___eq__ = some ⟨oc_Library___eq__, od_Library___eq__, .func (PySem.W.fnOf "__eq__" "Library.__eq__" (defArgs s_Library___eq__) (defBody s_Library___eq__) (defScope s_Library___eq__) .none kV_Library___eq__ dc_Library___eq__ pm_Library___eq__ an_Library___eq__ cd_Library___eq__ ct_Library___eq__), sl_Library___eq__⟩)
    (c_Library___eq__ : PySem.W.codeIn K cd_Library___eq__ "Library.__eq__" = true)
    (k_Library___eq__ : PySem.W.keepIn K (.ref f_Library___eq__) = true)
    (a__law_names_step : PySem.W.nsIn K mainGlobals "_law_names_step" = some (some (.ref f__law_names_step)))
    (l__law_names_step : K.lookup f__law_names_step = some ⟨oc__law_names_step, od__law_names_step, .func (PySem.W.fnOf "_law_names_step" "_law_names_step" (defArgs s__law_names_step) (defBody s__law_names_step) (defScope s__law_names_step) .none kV__law_names_step dc__law_names_step pm__law_names_step an__law_names_step cd__law_names_step ct__law_names_step), sl__law_names_step⟩)
    (c__law_names_step : PySem.W.codeIn K cd__law_names_step "_law_names_step" = true)
    (k__law_names_step : PySem.W.keepIn K (.ref f__law_names_step) = true)
    (a_Library_only : PySem.W.findIn K (.ref C_Library) "only" = some (some (.ref f_Library_only)))
    (i_Library_only : PySem.W.isFn K (.ref f_Library_only) = true)
    (l_Library_only : K.lookup f_Library_only = some ⟨oc_Library_only, od_Library_only, .func (PySem.W.fnOf "only" "Library.only" (defArgs s_Library_only) (defBody s_Library_only) (defScope s_Library_only) .none kV_Library_only dc_Library_only pm_Library_only an_Library_only cd_Library_only ct_Library_only), sl_Library_only⟩)
    (c_Library_only : PySem.W.codeIn K cd_Library_only "Library.only" = true)
    (k_Library_only : PySem.W.keepIn K (.ref f_Library_only) = true)
    (a__law_step : PySem.W.nsIn K mainGlobals "_law_step" = some (some (.ref f__law_step)))
    (l__law_step : K.lookup f__law_step = some ⟨oc__law_step, od__law_step, .func (PySem.W.fnOf "_law_step" "_law_step" (defArgs s__law_step) (defBody s__law_step) (defScope s__law_step) .none kV__law_step dc__law_step pm__law_step an__law_step (PySem.Value.ref c_tab) ct__law_step), sl__law_step⟩)
    (c__law_step : PySem.W.codeIn K (PySem.Value.ref c_tab) "_law_step" = true)
    (k__law_step : PySem.W.keepIn K (.ref f__law_step) = true)
    (a__law_text : PySem.W.nsIn K mainGlobals "_law_text" = some (some (.ref f__law_text)))
    (l__law_text : K.lookup f__law_text = some ⟨oc__law_text, od__law_text, .func (PySem.W.fnOf "_law_text" "_law_text" (defArgs s__law_text) (defBody s__law_text) (defScope s__law_text) .none kV__law_text dc__law_text pm__law_text an__law_text cd__law_text ct__law_text), sl__law_text⟩)
    (c__law_text : PySem.W.codeIn K cd__law_text "_law_text" = true)
    (k__law_text : PySem.W.keepIn K (.ref f__law_text) = true)
    (a__law_lines : PySem.W.nsIn K mainGlobals "_law_lines" = some (some (.ref f__law_lines)))
    (l__law_lines : K.lookup f__law_lines = some ⟨oc__law_lines, od__law_lines, .func (PySem.W.fnOf "_law_lines" "_law_lines" (defArgs s__law_lines) (defBody s__law_lines) (defScope s__law_lines) .none kV__law_lines dc__law_lines pm__law_lines an__law_lines cd__law_lines ct__law_lines), sl__law_lines⟩)
    (c__law_lines : PySem.W.codeIn K cd__law_lines "_law_lines" = true)
    (k__law_lines : PySem.W.keepIn K (.ref f__law_lines) = true)
    (a__law_right : PySem.W.nsIn K mainGlobals "_law_right" = some (some (.ref f__law_right)))
    (l__law_right : K.lookup f__law_right = some ⟨oc__law_right, od__law_right, .func (PySem.W.fnOf "_law_right" "_law_right" (defArgs s__law_right) (defBody s__law_right) (defScope s__law_right) .none kV__law_right dc__law_right pm__law_right an__law_right cd__law_right ct__law_right), sl__law_right⟩)
    (c__law_right : PySem.W.codeIn K cd__law_right "_law_right" = true)
    (k__law_right : PySem.W.keepIn K (.ref f__law_right) = true)
    (a_law : PySem.W.nsIn K mainGlobals "law" = some (some (.ref f_law)))
    (l_law : K.lookup f_law = some ⟨oc_law, od_law, .func (PySem.W.fnOf "law" "law" (defArgs s_law) (defBody s_law) (defScope s_law) .none kV_law dc_law pm_law an_law cd_law ct_law), sl_law⟩)
    (c_law : PySem.W.codeIn K cd_law "law" = true)
    (k_law : PySem.W.keepIn K (.ref f_law) = true)
    (z_KeyError : PySem.W.nsIn K mainGlobals "KeyError" = some none)
    (z_RuntimeError : PySem.W.nsIn K mainGlobals "RuntimeError" = some none)
    (z_ValueError : PySem.W.nsIn K mainGlobals "ValueError" = some none)
    (z_abs : PySem.W.nsIn K mainGlobals "abs" = some none)
    (z_all : PySem.W.nsIn K mainGlobals "all" = some none)
    (z_any : PySem.W.nsIn K mainGlobals "any" = some none)
    (z_bool : PySem.W.nsIn K mainGlobals "bool" = some none)
    (z_classmethod : PySem.W.nsIn K mainGlobals "classmethod" = some none)
    (z_dict : PySem.W.nsIn K mainGlobals "dict" = some none)
    (z_enumerate : PySem.W.nsIn K mainGlobals "enumerate" = some none)
    (z_int : PySem.W.nsIn K mainGlobals "int" = some none)
    (z_isinstance : PySem.W.nsIn K mainGlobals "isinstance" = some none)
    (z_iter : PySem.W.nsIn K mainGlobals "iter" = some none)
    (z_len : PySem.W.nsIn K mainGlobals "len" = some none)
    (z_list : PySem.W.nsIn K mainGlobals "list" = some none)
    (z_max : PySem.W.nsIn K mainGlobals "max" = some none)
    (z_min : PySem.W.nsIn K mainGlobals "min" = some none)
    (z_property : PySem.W.nsIn K mainGlobals "property" = some none)
    (z_range : PySem.W.nsIn K mainGlobals "range" = some none)
    (z_set : PySem.W.nsIn K mainGlobals "set" = some none)
    (z_sorted : PySem.W.nsIn K mainGlobals "sorted" = some none)
    (z_str : PySem.W.nsIn K mainGlobals "str" = some none)
    (z_tuple : PySem.W.nsIn K mainGlobals "tuple" = some none)
    (z_zip : PySem.W.nsIn K mainGlobals "zip" = some none)
    (g_MAX_LETTERS : PySem.W.nsIn K mainGlobals "MAX_LETTERS" = some (some (.int 8 t_MAX_LETTERS)))
    (g_MAX_PLACES : PySem.W.nsIn K mainGlobals "MAX_PLACES" = some (some (.int 15 t_MAX_PLACES)))
    (g_MAX_ORDER : PySem.W.nsIn K mainGlobals "MAX_ORDER" = some (some (.int 4 t_MAX_ORDER)))
    (g__ARROW : PySem.W.nsIn K mainGlobals "_ARROW" = some (some (.str " -> " t__ARROW)))
    (g_MAX_PARTS : PySem.W.nsIn K mainGlobals "MAX_PARTS" = some (some (.int 8 t_MAX_PARTS)))
    (g__COLON : PySem.W.nsIn K mainGlobals "_COLON" = some (some (.str " : " t__COLON)))
    (ea_InvalidOperation : PySem.W.nsIn K mainGlobals "InvalidOperation" = some (some (.ref C_InvalidOperation)))
    (ex_InvalidOperation : PySem.W.excIn K C_InvalidOperation [.type "ValueError", .type "Exception", .type "BaseException", .type "object"] "ValueError.__new__" = true)
    (ek_InvalidOperation : PySem.W.keepIn K (.ref C_InvalidOperation) = true)
    (eb_InvalidOperation : PySem.W.subIn K (.ref C_InvalidOperation) (.type "BaseException") = some true)
    (et_InvalidOperation : PySem.W.typeIn K (.ref C_InvalidOperation) = some (.type "type"))
    (ea_InvalidLibrary : PySem.W.nsIn K mainGlobals "InvalidLibrary" = some (some (.ref C_InvalidLibrary)))
    (ex_InvalidLibrary : PySem.W.excIn K C_InvalidLibrary [.type "ValueError", .type "Exception", .type "BaseException", .type "object"] "ValueError.__new__" = true)
    (ek_InvalidLibrary : PySem.W.keepIn K (.ref C_InvalidLibrary) = true)
    (eb_InvalidLibrary : PySem.W.subIn K (.ref C_InvalidLibrary) (.type "BaseException") = some true)
    (et_InvalidLibrary : PySem.W.typeIn K (.ref C_InvalidLibrary) = some (.type "type"))
    (tk_code : K.lookup c_tab = some ⟨tcl, tod, .fields tvs, tsl⟩)
    (tp_code : (tvs[11]? : Option Value) = some (.ref PT))
    (tm_code : PT ∈ ts)
    (tn_code : K.lookup PT = none)
    (th_code : PySem.W.codeHdIn K c_tab PT = true) :
    LamX.LawAtS l w K CX0 21 63 "_law_script" mg fa h := by
  have e := hfa.symm.trans (PySem.W.mg_of X G a_law)
  cases e
  have k_Type : Cls K C_Type := ⟨pg_Type, hd_Type, po_Type, sa_Type⟩
  have x_Type : XType K C_Type := ⟨n_inputs_Type, n_atom_Type, n_places_Type, n_order_Type, n_text_Type, fst_Type, nfs_Type, (ni_of (by decide +kernel) ni_str_Type), (odd_of hd_Type tyt_Type od_NoneType_Type), nf_NoneType_Type, (odd_of hd_Type tyt_Type od_int_Type), nf_int_Type, (odd_of hd_Type tyt_Type od_str_Type), nf_str_Type, (odd_of hd_Type tyt_Type od_tuple_Type), nf_tuple_Type, (odd_of hd_Type tyt_Type od_list_Type), nf_list_Type, (odd_of hd_Type tyt_Type od_dict_Type), nf_dict_Type, ne_Type, un_Type, cl1_Type, cl2_Type, cl3_Type, cl4_Type⟩
  have k_Library : Cls K C_Library := ⟨pg_Library, hd_Library, po_Library, sa_Library⟩
  have x_Library : XLibrary K C_Library := ⟨n_parts_Library, n_names_Library, n_lines_Library, fst_Library, nfs_Library, (ni_of (by decide +kernel) ni_str_Library), (odd_of hd_Library tyt_Library od_NoneType_Library), nf_NoneType_Library, (odd_of hd_Library tyt_Library od_int_Library), nf_int_Library, (odd_of hd_Library tyt_Library od_str_Library), nf_str_Library, (odd_of hd_Library tyt_Library od_tuple_Library), nf_tuple_Library, (odd_of hd_Library tyt_Library od_list_Library), nf_list_Library, (odd_of hd_Library tyt_Library od_dict_Library), nf_dict_Library, (fun f M => by have e := M.at_.symm.trans a_Library___getitem__; cases e; exact fi_Library___getitem__), ne_Library, un_Library, cl1_Library, cl2_Library, cl3_Library, cl4_Library⟩
  have T : Txt K mg C_Type C_Library := ⟨PySem.W.mg_of X G aC_Type, k_Type, x_Type, PySem.W.mg_of X G aC_Library, k_Library, x_Library, PySem.W.mg_none_of X G z_KeyError, PySem.W.mg_none_of X G z_RuntimeError, PySem.W.mg_none_of X G z_ValueError, PySem.W.mg_none_of X G z_abs, PySem.W.mg_none_of X G z_all, PySem.W.mg_none_of X G z_any, PySem.W.mg_none_of X G z_bool, PySem.W.mg_none_of X G z_classmethod, PySem.W.mg_none_of X G z_dict, PySem.W.mg_none_of X G z_enumerate, PySem.W.mg_none_of X G z_int, PySem.W.mg_none_of X G z_isinstance, PySem.W.mg_none_of X G z_iter, PySem.W.mg_none_of X G z_len, PySem.W.mg_none_of X G z_list, PySem.W.mg_none_of X G z_max, PySem.W.mg_none_of X G z_min, PySem.W.mg_none_of X G z_property, PySem.W.mg_none_of X G z_range, PySem.W.mg_none_of X G z_set, PySem.W.mg_none_of X G z_sorted, PySem.W.mg_none_of X G z_str, PySem.W.mg_none_of X G z_tuple, PySem.W.mg_none_of X G z_zip, ⟨_, PySem.W.mg_of X G g_MAX_LETTERS, ⟨_, rfl⟩⟩, ⟨_, PySem.W.mg_of X G g_MAX_PLACES, ⟨_, rfl⟩⟩, ⟨_, PySem.W.mg_of X G g_MAX_ORDER, ⟨_, rfl⟩⟩, ⟨_, PySem.W.mg_of X G g__ARROW, ⟨_, rfl⟩⟩, ⟨_, PySem.W.mg_of X G g_MAX_PARTS, ⟨_, rfl⟩⟩, ⟨_, PySem.W.mg_of X G g__COLON, ⟨_, rfl⟩⟩⟩
  have e_InvalidOperation : ErrT K mg "InvalidOperation" C_InvalidOperation := ⟨ex_InvalidOperation, PySem.W.mg_of X G ea_InvalidOperation, ek_InvalidOperation, eb_InvalidOperation, et_InvalidOperation⟩
  have e_InvalidLibrary : ErrT K mg "InvalidLibrary" C_InvalidLibrary := ⟨ex_InvalidLibrary, PySem.W.mg_of X G ea_InvalidLibrary, ek_InvalidLibrary, eb_InvalidLibrary, et_InvalidLibrary⟩
  refine ⟨PySem.W.fnOf "law" "law" (defArgs s_law) (defBody s_law) (defScope s_law) .none kV_law dc_law pm_law an_law cd_law ct_law, [(c_tab, PT)], sp_lawT K PT, fun p hp => by rw [List.mem_singleton.mp hp]; exact tabs PT tm_code, fun p hp => by rw [List.mem_singleton.mp hp]; exact tn_code, fun p hp => by rw [List.mem_singleton.mp hp]; exact PySem.W.codeHd_of_K X th_code, fun s v => .of_eq rfl, fun H a ns hn _ ht hs => ⟨a, ns, rfl, hs, hn, fun p hp => by rw [List.mem_singleton.mp hp]; exact LamX.TabS.nil (ht _ (List.mem_singleton.mpr rfl)), fun _ => rfl⟩, fun base _ _ TBs => ?_⟩
  have TB := TBs _ (List.mem_singleton.mpr rfl)
  have F_is_word := fun_mk (st := s_is_word) l_is_word c_is_word k_is_word
  have B_is_word := F_is_word.binds (ps := ["value"]) fun _ _ _ _ _ _ us hl => match us, hl with | [_], _ => rfl
  have D_is_word : CalN l.prog w K mg base "is_word" 1 ["value"] (sp_is_word K) := ⟨_, _, ok_is_word (P := l.prog) (w := w) (base := base) T F_is_word, PySem.W.mg_of X G a_is_word, k_is_word, B_is_word⟩
  have F__are_parts := fun_mk (st := s__are_parts) l__are_parts c__are_parts k__are_parts
  have B__are_parts := F__are_parts.binds (ps := ["parts"]) fun _ _ _ _ _ _ us hl => match us, hl with | [_], _ => rfl
  have D__are_parts : CalN l.prog w K mg base "_are_parts" 2 ["parts"] (sp__are_parts K C_Type) := ⟨_, _, ok__are_parts (P := l.prog) (w := w) (base := base) T D_is_word F__are_parts, PySem.W.mg_of X G a__are_parts, k__are_parts, B__are_parts⟩
  have F_Type_text := fun_mk (st := s_Type_text) l_Type_text c_Type_text k_Type_text
  have B_Type_text := F_Type_text.binds (ps := ["self"]) fun _ _ _ _ _ _ us hl => match us, hl with | [_], _ => rfl
  have D_Type_text : PrpC l.prog w K mg base C_Type "text" 1 ["self"] (getSp C_Type "_text") := ⟨_, _, _, F_Type_text.getter sc_Type_text k_Type x_Type.n_text, ⟨a_Type_text, g_Type_text, t_Type_text, _, r_Type_text⟩, B_Type_text⟩
  have F_Library___init__ := fund_mk (st := s_Library___init__) l_Library___init__ lt_Library___init__ c_Library___init__ k_Library___init__
  have B1_Library___init__ := F_Library___init__.binds1 (ps := ["self", "parts"]) 2 1 (by decide) rfl (fun _ _ _ _ _ _ _ us its hu hi => match us, its, hu, hi with | [_, _], [_], _, _ => ⟨_, rfl, rfl⟩)
  have B_Library___init__ := binds_nil B1_Library___init__
  have B0_Library___init__ := F_Library___init__.binds1 (ps := ["self", "parts"]) 1 0 (by decide) rfl (fun _ _ _ _ _ _ _ us its hu hi => match us, its, hu, hi with | [_], [_], _, _ => ⟨_, rfl, rfl⟩)
  have D_Library___init__ : MakC l.prog w K mg base C_Library 3 ["self", "parts"] (sp_Library___init__ K C_Type C_Library) := ⟨_, _, ok_Library___init__ (P := l.prog) (w := w) (base := base) T D__are_parts D_Type_text F_Library___init__, ⟨mk_Library, a_Library___init__, i_Library___init__, kc_Library⟩, B_Library___init__⟩
  have DJ_Library___init__ : MakD l.prog w K mg base C_Library 3 ["self", "parts"] [.non] (sp_Library___init__ K C_Type C_Library) := by obtain ⟨ds, v, b⟩ := B0_Library___init__; exact ⟨_, _, ds, ok_Library___init__ (P := l.prog) (w := w) (base := base) T D__are_parts D_Type_text F_Library___init__, ⟨mk_Library, a_Library___init__, i_Library___init__, kc_Library⟩, v, b⟩
  have D_initLX : MakX l.prog w K mg base C_Library 3 ["self", "parts"] (sp_Library_initX K C_Type C_Library C_InvalidLibrary) := ⟨_, _, ok_Library_initX (P := l.prog) (w := w) (base := base) T e_InvalidLibrary D__are_parts D_Type_text F_Library___init__, ⟨mk_Library, a_Library___init__, i_Library___init__, kc_Library⟩, B_Library___init__⟩
  have F_Library_parts := fun_mk (st := s_Library_parts) l_Library_parts c_Library_parts k_Library_parts
  have B_Library_parts := F_Library_parts.binds (ps := ["self"]) fun _ _ _ _ _ _ us hl => match us, hl with | [_], _ => rfl
  have D_Library_parts : PrpC l.prog w K mg base C_Library "parts" 1 ["self"] (sp_Library_parts K C_Type C_Library) := ⟨_, _, _, ok_Library_parts (P := l.prog) (w := w) (base := base) T F_Library_parts, ⟨a_Library_parts, g_Library_parts, t_Library_parts, _, r_Library_parts⟩, B_Library_parts⟩
  have F_Library___contains__ := fun_mk (st := s_Library___contains__) l_Library___contains__ c_Library___contains__ k_Library___contains__
  have B_Library___contains__ := F_Library___contains__.binds (ps := ["self", "x"]) fun _ _ _ _ _ _ us hl => match us, hl with | [_, _], _ => rfl
  have D_Library___contains__ : MetC l.prog w K mg base C_Library "__contains__" 1 ["self", "x"] (sp_Library___contains__ K C_Type C_Library) := ⟨_, _, ok_Library___contains__ (P := l.prog) (w := w) (base := base) T F_Library___contains__, ⟨a_Library___contains__, i_Library___contains__, k_Library___contains__⟩, B_Library___contains__⟩
  have F_Library___getitem__ := fun_mk (st := s_Library___getitem__) l_Library___getitem__ c_Library___getitem__ k_Library___getitem__
  have B_Library___getitem__ := F_Library___getitem__.binds (ps := ["self", "at"]) fun _ _ _ _ _ _ us hl => match us, hl with | [_, _], _ => rfl
  have D_Library___getitem__ : MetC l.prog w K mg base C_Library "__getitem__" 2 ["self", "at"] (sp_Library___getitem__ K C_Type C_Library) := ⟨_, _, ok_Library___getitem__ (P := l.prog) (w := w) (base := base) T D_Library___contains__ F_Library___getitem__, ⟨a_Library___getitem__, i_Library___getitem__, k_Library___getitem__⟩, B_Library___getitem__⟩
  have F_Type___eq__ := fun_mk (st := s_Type___eq__) l_Type___eq__ c_Type___eq__ k_Type___eq__
  have B_Type___eq__ := F_Type___eq__.binds (ps := ["self", "other"]) fun _ _ _ _ _ _ us hl => match us, hl with | [_, _], _ => rfl
  have D_Type___eq__ : MetC l.prog w K mg base C_Type "__eq__" 1 ["self", "other"] (sp_Type_eqX K C_Type) := ⟨_, _, ok_Type___eq__ (P := l.prog) (w := w) (base := base) T F_Type___eq__, ⟨a_Type___eq__, i_Type___eq__, k_Type___eq__⟩, B_Type___eq__⟩
  have F_Library___or__ := fun_mk (st := s_Library___or__) l_Library___or__ c_Library___or__ k_Library___or__
  have B_Library___or__ := F_Library___or__.binds (ps := ["self", "other"]) fun _ _ _ _ _ _ us hl => match us, hl with | [_, _], _ => rfl
  have D_orX : MetX l.prog w K mg base C_Library "__or__" 5 ["self", "other"] (sp_Library_orX K C_Type C_Library C_InvalidOperation C_InvalidLibrary) := ⟨_, _, ok_Library_orX (P := l.prog) (w := w) (base := base) T e_InvalidOperation D_initLX D_Library_parts D_Library___init__ D_Library___contains__ D_Library___getitem__ D_Type___eq__ F_Library___or__, ⟨a_Library___or__, i_Library___or__, k_Library___or__⟩, B_Library___or__⟩
  have F_Library_with_part := fun_mk (st := s_Library_with_part) l_Library_with_part c_Library_with_part k_Library_with_part
  have B_Library_with_part := F_Library_with_part.binds (ps := ["self", "name", "wanted"]) fun _ _ _ _ _ _ us hl => match us, hl with | [_, _, _], _ => rfl
  have D_withX : MetX l.prog w K mg base C_Library "with_part" 5 ["self", "name", "wanted"] (sp_Library_with_partX K C_Type C_Library C_InvalidLibrary) := ⟨_, _, ok_Library_with_partX (P := l.prog) (w := w) (base := base) T D_initLX D_Library_parts D_Library___init__ D_is_word F_Library_with_part, ⟨a_Library_with_part, i_Library_with_part, k_Library_with_part⟩, B_Library_with_part⟩
  have F__law_got := fun_mk (st := s__law_got) l__law_got c__law_got k__law_got
  have B__law_got := F__law_got.binds (ps := ["_law_call"]) fun _ _ _ _ _ _ us hl => match us, hl with | [_], _ => rfl
  have F__pieces := fun_mk (st := s__pieces) l__pieces c__pieces k__pieces
  have B__pieces := F__pieces.binds (ps := ["text"]) fun _ _ _ _ _ _ us hl => match us, hl with | [_], _ => rfl
  have D__pieces : CalN l.prog w K mg base "_pieces" 1 ["text"] (sp__pieces K) := ⟨_, _, ok__pieces (P := l.prog) (w := w) (base := base) T F__pieces, PySem.W.mg_of X G a__pieces, k__pieces, B__pieces⟩
  have F__is_tuple_of_types := fun_mk (st := s__is_tuple_of_types) l__is_tuple_of_types c__is_tuple_of_types k__is_tuple_of_types
  have B__is_tuple_of_types := F__is_tuple_of_types.binds (ps := ["value"]) fun _ _ _ _ _ _ us hl => match us, hl with | [_], _ => rfl
  have D__is_tuple_of_types : CalN l.prog w K mg base "_is_tuple_of_types" 1 ["value"] (sp__is_tuple_of_types K C_Type) := ⟨_, _, ok__is_tuple_of_types (P := l.prog) (w := w) (base := base) T F__is_tuple_of_types, PySem.W.mg_of X G a__is_tuple_of_types, k__is_tuple_of_types, B__is_tuple_of_types⟩
  have F_Type_order := fun_mk (st := s_Type_order) l_Type_order c_Type_order k_Type_order
  have B_Type_order := F_Type_order.binds (ps := ["self"]) fun _ _ _ _ _ _ us hl => match us, hl with | [_], _ => rfl
  have D_Type_order : PrpC l.prog w K mg base C_Type "order" 1 ["self"] (getSp C_Type "_order") := ⟨_, _, _, F_Type_order.getter sc_Type_order k_Type x_Type.n_order, ⟨a_Type_order, g_Type_order, t_Type_order, _, r_Type_order⟩, B_Type_order⟩
  have F_Type_inputs := fun_mk (st := s_Type_inputs) l_Type_inputs c_Type_inputs k_Type_inputs
  have B_Type_inputs := F_Type_inputs.binds (ps := ["self"]) fun _ _ _ _ _ _ us hl => match us, hl with | [_], _ => rfl
  have D_Type_inputs : PrpC l.prog w K mg base C_Type "inputs" 1 ["self"] (getSp C_Type "_inputs") := ⟨_, _, _, F_Type_inputs.getter sc_Type_inputs k_Type x_Type.n_inputs, ⟨a_Type_inputs, g_Type_inputs, t_Type_inputs, _, r_Type_inputs⟩, B_Type_inputs⟩
  have F__text_inside := fun_mk (st := s__text_inside) l__text_inside c__text_inside k__text_inside
  have B__text_inside := F__text_inside.binds (ps := ["wanted"]) fun _ _ _ _ _ _ us hl => match us, hl with | [_], _ => rfl
  have D__text_inside : CalN l.prog w K mg base "_text_inside" 3 ["wanted"] (sp__text_inside K C_Type) := ⟨_, _, ok__text_inside (P := l.prog) (w := w) (base := base) T D_Type_inputs D_Type_text F__text_inside, PySem.W.mg_of X G a__text_inside, k__text_inside, B__text_inside⟩
  have F_Type___init__ := fun_mk (st := s_Type___init__) l_Type___init__ c_Type___init__ k_Type___init__
  have B_Type___init__ := F_Type___init__.binds (ps := ["self", "inputs", "atom"]) fun _ _ _ _ _ _ us hl => match us, hl with | [_, _, _], _ => rfl
  have D_Type___init__ : MakC l.prog w K mg base C_Type 4 ["self", "inputs", "atom"] (sp_Type___init__ K C_Type) := ⟨_, _, ok_Type___init__ (P := l.prog) (w := w) (base := base) T D__is_tuple_of_types D_is_word D_Type_order D__text_inside F_Type___init__, ⟨mk_Type, a_Type___init__, i_Type___init__, kc_Type⟩, B_Type___init__⟩
  have F_Type_plain := fun_mk (st := s_Type_plain) l_Type_plain c_Type_plain k_Type_plain
  have B_Type_plain := F_Type_plain.binds (ps := ["cls", "atom"]) fun _ _ _ _ _ _ us hl => match us, hl with | [_, _], _ => rfl
  have D_Type_plain : CmtC l.prog w K mg base C_Type "plain" 6 ["cls", "atom"] (sp_Type_plain K C_Type) := ⟨_, _, _, _, ok_Type_plain (P := l.prog) (w := w) (base := base) T D_Type___init__ F_Type_plain, ⟨rd_Type, ga_Type⟩, ⟨a_Type_plain, ⟨_, r_Type_plain⟩, fi_Type_plain⟩, B_Type_plain⟩
  have F__read_freely := fun_mk (st := s__read_freely) l__read_freely c__read_freely k__read_freely
  have B__read_freely := F__read_freely.binds (ps := ["text", "depth"]) fun _ _ _ _ _ _ us hl => match us, hl with | [_, _], _ => rfl
  have F__read_piece := fun_mk (st := s__read_piece) l__read_piece c__read_piece k__read_piece
  have B__read_piece := F__read_piece.binds (ps := ["piece", "depth"]) fun _ _ _ _ _ _ us hl => match us, hl with | [_, _], _ => rfl
  have R__read_piece := ok__read_both (P := l.prog) (w := w) (base := base) T D_Type___init__ D__pieces D_Type_plain F__read_freely (PySem.W.mg_of X G a__read_freely) B__read_freely F__read_piece (PySem.W.mg_of X G a__read_piece) B__read_piece 5
  have D__read_freely : CalN l.prog w K mg base "_read_freely" 17 ["text", "depth"] (sp__read_freely K C_Type) := ⟨_, _, R__read_piece.1, PySem.W.mg_of X G a__read_freely, k__read_freely, B__read_freely⟩
  have F_Type_read := fun_mk (st := s_Type_read) l_Type_read c_Type_read k_Type_read
  have B_Type_read := F_Type_read.binds (ps := ["cls", "text"]) fun _ _ _ _ _ _ us hl => match us, hl with | [_, _], _ => rfl
  have D_Type_read : CmtC l.prog w K mg base C_Type "read" 18 ["cls", "text"] (sp_Type_read K C_Type) := ⟨_, _, _, _, ok_Type_read (P := l.prog) (w := w) (base := base) T D__read_freely D_Type_text F_Type_read, ⟨rd_Type, ga_Type⟩, ⟨a_Type_read, ⟨_, r_Type_read⟩, fi_Type_read⟩, B_Type_read⟩
  have F__read_line := fun_mk (st := s__read_line) l__read_line c__read_line k__read_line
  have B__read_line := F__read_line.binds (ps := ["line", "at"]) fun _ _ _ _ _ _ us hl => match us, hl with | [_, _], _ => rfl
  have D__read_line : CalN l.prog w K mg base "_read_line" 19 ["line", "at"] (sp__read_line K C_Type C_Library) := ⟨_, _, ok__read_line (P := l.prog) (w := w) (base := base) T D_is_word D_Type_read F__read_line, PySem.W.mg_of X G a__read_line, k__read_line, B__read_line⟩
  have F_Library_read := fun_mk (st := s_Library_read) l_Library_read c_Library_read k_Library_read
  have D_Library_read : CmtR l.prog w K mg base C_Library "read" 20 (starSp 1 (sp_Library_read K C_Type C_Library)) := ⟨_, _, _, ok_Library_read (P := l.prog) (w := w) (base := base) T D_Library___init__ D__read_line F_Library_read, ⟨rd_Library, ga_Library⟩, ⟨a_Library_read, ⟨_, r_Library_read⟩, fi_Library_read⟩⟩
  have F__law_dice := fun_mk (st := s__law_dice) l__law_dice c__law_dice k__law_dice
  have B__law_dice := F__law_dice.binds (ps := ["_law_script", "_law_spot"]) fun _ _ _ _ _ _ us hl => match us, hl with | [_, _], _ => rfl
  have D__law_dice : CalN l.prog w K mg base "_law_dice" 1 ["_law_script", "_law_spot"] (sp__law_dice K) := ⟨_, _, ok__law_dice (P := l.prog) (w := w) (base := base) T F__law_dice, PySem.W.mg_of X G a__law_dice, k__law_dice, B__law_dice⟩
  have F_Library_lines := fun_mk (st := s_Library_lines) l_Library_lines c_Library_lines k_Library_lines
  have B_Library_lines := F_Library_lines.binds (ps := ["self"]) fun _ _ _ _ _ _ us hl => match us, hl with | [_], _ => rfl
  have D_Library_lines : PrpC l.prog w K mg base C_Library "lines" 1 ["self"] (getSp C_Library "_lines") := ⟨_, _, _, F_Library_lines.getter sc_Library_lines k_Library x_Library.n_lines, ⟨a_Library_lines, g_Library_lines, t_Library_lines, _, r_Library_lines⟩, B_Library_lines⟩
  have F_Library_names := fun_mk (st := s_Library_names) l_Library_names c_Library_names k_Library_names
  have B_Library_names := F_Library_names.binds (ps := ["self"]) fun _ _ _ _ _ _ us hl => match us, hl with | [_], _ => rfl
  have D_Library_names : PrpC l.prog w K mg base C_Library "names" 1 ["self"] (getSp C_Library "_names") := ⟨_, _, _, F_Library_names.getter sc_Library_names k_Library x_Library.n_names, ⟨a_Library_names, g_Library_names, t_Library_names, _, r_Library_names⟩, B_Library_names⟩
  have F__are_words := fun_mk (st := s__are_words) l__are_words c__are_words k__are_words
  have B__are_words := F__are_words.binds (ps := ["names", "asked"]) fun _ _ _ _ _ _ us hl => match us, hl with | [_, _], _ => rfl
  have D__are_words : CalN l.prog w K mg base "_are_words" 2 ["names", "asked"] (sp__are_words K) := ⟨_, _, ok__are_words (P := l.prog) (w := w) (base := base) T D_is_word F__are_words, PySem.W.mg_of X G a__are_words, k__are_words, B__are_words⟩
  have F__is_renaming := fun_mk (st := s__is_renaming) l__is_renaming c__is_renaming k__is_renaming
  have B__is_renaming := F__is_renaming.binds (ps := ["names", "atoms"]) fun _ _ _ _ _ _ us hl => match us, hl with | [_, _], _ => rfl
  have D__is_renaming : CalN l.prog w K mg base "_is_renaming" 2 ["names", "atoms"] (sp__is_renaming K) := ⟨_, _, ok__is_renaming (P := l.prog) (w := w) (base := base) T D_is_word F__is_renaming, PySem.W.mg_of X G a__is_renaming, k__is_renaming, B__is_renaming⟩
  have F_Type_atoms := fun_mk (st := s_Type_atoms) l_Type_atoms c_Type_atoms k_Type_atoms
  have B_Type_atoms := F_Type_atoms.binds (ps := ["self"]) fun _ _ _ _ _ _ us hl => match us, hl with | [_], _ => rfl
  have D_Type_atoms : PrpC l.prog w K mg base C_Type "atoms" 1 ["self"] (sp_Type_atoms K C_Type) := ⟨_, _, _, ok_Type_atoms (P := l.prog) (w := w) (base := base) T F_Type_atoms, ⟨a_Type_atoms, g_Type_atoms, t_Type_atoms, _, r_Type_atoms⟩, B_Type_atoms⟩
  have F_Type_renamed := fun_mk (st := s_Type_renamed) l_Type_renamed c_Type_renamed k_Type_renamed
  have B_Type_renamed := F_Type_renamed.binds (ps := ["self", "names"]) fun _ _ _ _ _ _ us hl => match us, hl with | [_, _], _ => rfl
  have D_Type_renamed : MetC l.prog w K mg base C_Type "renamed" 12 ["self", "names"] (sp_Type_renamed K C_Type) := ⟨_, _, ok_Type_renamed (P := l.prog) (w := w) (base := base) T D_Type___init__ D__is_renaming D_Type_atoms F_Type_renamed ⟨a_Type_renamed, i_Type_renamed, k_Type_renamed⟩ B_Type_renamed 6, ⟨a_Type_renamed, i_Type_renamed, k_Type_renamed⟩, B_Type_renamed⟩
  have F_Library_atoms := fun_mk (st := s_Library_atoms) l_Library_atoms c_Library_atoms k_Library_atoms
  have B_Library_atoms := F_Library_atoms.binds (ps := ["self"]) fun _ _ _ _ _ _ us hl => match us, hl with | [_], _ => rfl
  have D_Library_atoms : PrpC l.prog w K mg base C_Library "atoms" 3 ["self"] (sp_Library_atoms K C_Type C_Library) := ⟨_, _, _, ok_Library_atoms (P := l.prog) (w := w) (base := base) T D_Type_atoms F_Library_atoms, ⟨a_Library_atoms, g_Library_atoms, t_Library_atoms, _, r_Library_atoms⟩, B_Library_atoms⟩
  have F_Library_with_atoms := fun_mk (st := s_Library_with_atoms) l_Library_with_atoms c_Library_with_atoms k_Library_with_atoms
  have B_Library_with_atoms := F_Library_with_atoms.binds (ps := ["self", "names"]) fun _ _ _ _ _ _ us hl => match us, hl with | [_, _], _ => rfl
  have D_Library_with_atoms : MetC l.prog w K mg base C_Library "with_atoms" 13 ["self", "names"] (sp_Library_with_atoms K C_Type C_Library) := ⟨_, _, ok_Library_with_atoms (P := l.prog) (w := w) (base := base) T D_Library___init__ D__are_words D_Type_renamed D_Library_atoms D_Type_atoms F_Library_with_atoms, ⟨a_Library_with_atoms, i_Library_with_atoms, k_Library_with_atoms⟩, B_Library_with_atoms⟩
  have F_Library__check_names := fun_mk (st := s_Library__check_names) l_Library__check_names c_Library__check_names k_Library__check_names
  have B_Library__check_names := F_Library__check_names.binds (ps := ["self", "names"]) fun _ _ _ _ _ _ us hl => match us, hl with | [_, _], _ => rfl
  have D_Library__check_names : MetC l.prog w K mg base C_Library "_check_names" 2 ["self", "names"] (sp_Library__check_names K C_Type C_Library) := ⟨_, _, ok_Library__check_names (P := l.prog) (w := w) (base := base) T D_Library___contains__ F_Library__check_names, ⟨a_Library__check_names, i_Library__check_names, k_Library__check_names⟩, B_Library__check_names⟩
  have F_Library_without := fun_mk (st := s_Library_without) l_Library_without c_Library_without k_Library_without
  have D_Library_without : MetR l.prog w K mg base C_Library "without" 5 (starSp 1 (sp_Library_without K C_Type C_Library)) := ⟨_, ok_Library_without (P := l.prog) (w := w) (base := base) T D_Library__check_names D_Library___init__ F_Library_without, ⟨a_Library_without, i_Library_without, k_Library_without⟩⟩
  have F__law_roll := fun_mk (st := s__law_roll) l__law_roll c__law_roll k__law_roll
  have B__law_roll := F__law_roll.binds (ps := ["_law_dice_here", "_law_total"]) fun _ _ _ _ _ _ us hl => match us, hl with | [_, _], _ => rfl
  have D__law_roll : CalN l.prog w K mg base "_law_roll" 1 ["_law_dice_here", "_law_total"] (sp__law_roll K) := ⟨_, _, ok__law_roll (P := l.prog) (w := w) (base := base) T F__law_roll, PySem.W.mg_of X G a__law_roll, k__law_roll, B__law_roll⟩
  have F__law_pick := fun_mk (st := s__law_pick) l__law_pick c__law_pick k__law_pick
  have B__law_pick := F__law_pick.binds (ps := ["_law_dice_here", "_law_items"]) fun _ _ _ _ _ _ us hl => match us, hl with | [_, _], _ => rfl
  have D__law_pick : CalN l.prog w K mg base "_law_pick" 2 ["_law_dice_here", "_law_items"] (sp__law_pick K) := ⟨_, _, ok__law_pick (P := l.prog) (w := w) (base := base) T D__law_roll F__law_pick, PySem.W.mg_of X G a__law_pick, k__law_pick, B__law_pick⟩
  have F__law_some := fun_mk (st := s__law_some) l__law_some c__law_some k__law_some
  have B__law_some := F__law_some.binds (ps := ["_law_dice_here", "_law_items", "_law_size"]) fun _ _ _ _ _ _ us hl => match us, hl with | [_, _, _], _ => rfl
  have D__law_some : CalN l.prog w K mg base "_law_some" 2 ["_law_dice_here", "_law_items", "_law_size"] (sp__law_some2 K) := ⟨_, _, ok__law_some (P := l.prog) (w := w) (base := base) T D__law_roll F__law_some, PySem.W.mg_of X G a__law_some, k__law_some, B__law_some⟩
  have D_some4 : CalN l.prog w K mg base "_law_some" 2 ["_law_dice_here", "_law_items", "_law_size"] (sp__law_some4 K) := ⟨_, _, ok__law_some4 (P := l.prog) (w := w) (base := base) T D__law_roll F__law_some, PySem.W.mg_of X G a__law_some, k__law_some, B__law_some⟩
  have F__law_known_library := fun_mk (st := s__law_known_library) l__law_known_library c__law_known_library k__law_known_library
  have B__law_known_library := F__law_known_library.binds (ps := ["_law_dice_here"]) fun _ _ _ _ _ _ us hl => match us, hl with | [_], _ => rfl
  have D__law_known_library : CalN l.prog w K mg base "_law_known_library" 3 ["_law_dice_here"] (sp__law_known_library K) := ⟨_, _, ok__law_known_library (P := l.prog) (w := w) (base := base) T D__law_pick F__law_known_library, PySem.W.mg_of X G a__law_known_library, k__law_known_library, B__law_known_library⟩
  have F__law_atoms_of := fun_mk (st := s__law_atoms_of) l__law_atoms_of c__law_atoms_of k__law_atoms_of
  have B__law_atoms_of := F__law_atoms_of.binds (ps := ["_law_kind_here"]) fun _ _ _ _ _ _ us hl => match us, hl with | [_], _ => rfl
  have D__law_atoms_of : CalN l.prog w K mg base "_law_atoms_of" 7 ["_law_kind_here"] (sp__law_atoms_of K) := ⟨_, _, ok__law_atoms_of (P := l.prog) (w := w) (base := base) T F__law_atoms_of (PySem.W.mg_of X G a__law_atoms_of) B__law_atoms_of 6, PySem.W.mg_of X G a__law_atoms_of, k__law_atoms_of, B__law_atoms_of⟩
  have F__law_kind := fun_mk (st := s__law_kind) l__law_kind c__law_kind k__law_kind
  have B__law_kind := F__law_kind.binds (ps := ["_law_dice_here", "_law_atoms", "_law_order", "_law_most"]) fun _ _ _ _ _ _ us hl => match us, hl with | [_, _, _, _], _ => rfl
  have D__law_kind : CalN l.prog w K mg base "_law_kind" 14 ["_law_dice_here", "_law_atoms", "_law_order", "_law_most"] (sp__law_kind K) := ⟨_, _, ok__law_kind (P := l.prog) (w := w) (base := base) T D__law_pick D__law_roll D__law_atoms_of F__law_kind (PySem.W.mg_of X G a__law_kind) B__law_kind 6, PySem.W.mg_of X G a__law_kind, k__law_kind, B__law_kind⟩
  have F__law_library := fun_mk (st := s__law_library) l__law_library c__law_library k__law_library
  have B__law_library := F__law_library.binds (ps := ["_law_dice_here"]) fun _ _ _ _ _ _ us hl => match us, hl with | [_], _ => rfl
  have D__law_library : CalN l.prog w K mg base "_law_library" 15 ["_law_dice_here"] (sp__law_library K) := ⟨_, _, ok__law_library (P := l.prog) (w := w) (base := base) T D__law_pick D__law_some D__law_roll D__law_known_library D__law_kind F__law_library, PySem.W.mg_of X G a__law_library, k__law_library, B__law_library⟩
  have F__law_made_kind := fun_mk (st := s__law_made_kind) l__law_made_kind c__law_made_kind k__law_made_kind
  have B__law_made_kind := F__law_made_kind.binds (ps := ["_law_kind_here"]) fun _ _ _ _ _ _ us hl => match us, hl with | [_], _ => rfl
  have D__law_made_kind : CalN l.prog w K mg base "_law_made_kind" 12 ["_law_kind_here"] (sp__law_made_kind K C_Type) := ⟨_, _, ok__law_made_kind (P := l.prog) (w := w) (base := base) T D_Type___init__ F__law_made_kind (PySem.W.mg_of X G a__law_made_kind) B__law_made_kind 6, PySem.W.mg_of X G a__law_made_kind, k__law_made_kind, B__law_made_kind⟩
  have F__law_made := fun_mk (st := s__law_made) l__law_made c__law_made k__law_made
  have B__law_made := F__law_made.binds (ps := ["_law_library_here"]) fun _ _ _ _ _ _ us hl => match us, hl with | [_], _ => rfl
  have D__law_made : CalN l.prog w K mg base "_law_made" 13 ["_law_library_here"] (sp__law_made K C_Type C_Library) := ⟨_, _, ok__law_made (P := l.prog) (w := w) (base := base) T D_Library___init__ D__law_made_kind F__law_made, PySem.W.mg_of X G a__law_made, k__law_made, B__law_made⟩
  have F__law_library_atoms := fun_mk (st := s__law_library_atoms) l__law_library_atoms c__law_library_atoms k__law_library_atoms
  have B__law_library_atoms := F__law_library_atoms.binds (ps := ["_law_library_here"]) fun _ _ _ _ _ _ us hl => match us, hl with | [_], _ => rfl
  have D__law_library_atoms : CalN l.prog w K mg base "_law_library_atoms" 8 ["_law_library_here"] (sp__law_library_atoms K) := ⟨_, _, ok__law_library_atoms (P := l.prog) (w := w) (base := base) T D__law_atoms_of F__law_library_atoms, PySem.W.mg_of X G a__law_library_atoms, k__law_library_atoms, B__law_library_atoms⟩
  have F_Library_renamed := fun_mk (st := s_Library_renamed) l_Library_renamed c_Library_renamed k_Library_renamed
  have B_Library_renamed := F_Library_renamed.binds (ps := ["self", "names"]) fun _ _ _ _ _ _ us hl => match us, hl with | [_, _], _ => rfl
  have D_Library_renamed : MetC l.prog w K mg base C_Library "renamed" 5 ["self", "names"] (sp_Library_renamed K C_Type C_Library) := ⟨_, _, ok_Library_renamed (P := l.prog) (w := w) (base := base) T D_Library___init__ D__are_words F_Library_renamed, ⟨a_Library_renamed, i_Library_renamed, k_Library_renamed⟩, B_Library_renamed⟩
  have F__law_atoms_put := fun_mk (st := s__law_atoms_put) l__law_atoms_put c__law_atoms_put k__law_atoms_put
  have B__law_atoms_put := F__law_atoms_put.binds (ps := ["_law_kind_here", "_law_names"]) fun _ _ _ _ _ _ us hl => match us, hl with | [_, _], _ => rfl
  have D__law_atoms_put : CalN l.prog w K mg base "_law_atoms_put" 7 ["_law_kind_here", "_law_names"] (sp__law_atoms_put K) := ⟨_, _, ok__law_atoms_put (P := l.prog) (w := w) (base := base) T F__law_atoms_put (PySem.W.mg_of X G a__law_atoms_put) B__law_atoms_put 6, PySem.W.mg_of X G a__law_atoms_put, k__law_atoms_put, B__law_atoms_put⟩
  have F_Library___eq__ := fun_mk (st := s_Library___eq__) l_Library___eq__ c_Library___eq__ k_Library___eq__
  have B_Library___eq__ := F_Library___eq__.binds (ps := ["self", "other"]) fun _ _ _ _ _ _ us hl => match us, hl with | [_, _], _ => rfl
  have D_Library___eq__ : MetC l.prog w K mg base C_Library "__eq__" 1 ["self", "other"] (sp_Library___eq__ K C_Type C_Library) := ⟨_, _, ok_Library___eq__ (P := l.prog) (w := w) (base := base) T F_Library___eq__, ⟨a_Library___eq__, i_Library___eq__, k_Library___eq__⟩, B_Library___eq__⟩
  have F__law_names_step := fun_mk (st := s__law_names_step) l__law_names_step c__law_names_step k__law_names_step
  have B__law_names_step := F__law_names_step.binds (ps := ["_law_dice_here", "_law_library_here", "_law_made_here"]) fun _ _ _ _ _ _ us hl => match us, hl with | [_, _, _], _ => rfl
  have D__law_names_step : CalN l.prog w K mg base "_law_names_step" 14 ["_law_dice_here", "_law_library_here", "_law_made_here"] (sp__law_names_step K C_Type C_Library) := ⟨_, _, ok__law_names_step (P := l.prog) (w := w) (base := base) T D__law_library_atoms D__law_some D_Library_renamed D__law_roll D_Library_with_atoms D__law_pick D__law_atoms_put D_Library___eq__ F__law_names_step, PySem.W.mg_of X G a__law_names_step, k__law_names_step, B__law_names_step⟩
  have F_Library_only := fun_mk (st := s_Library_only) l_Library_only c_Library_only k_Library_only
  have D_Library_only : MetR l.prog w K mg base C_Library "only" 5 (starSp 1 (sp_Library_only K C_Type C_Library)) := ⟨_, ok_Library_only (P := l.prog) (w := w) (base := base) T D_Library__check_names D_Library___init__ F_Library_only, ⟨a_Library_only, i_Library_only, k_Library_only⟩⟩
  have F__law_step := fun_mk (st := s__law_step) l__law_step c__law_step k__law_step
  have B__law_step := F__law_step.binds (ps := ["_law_dice_here", "_law_library_here", "_law_made_here"]) fun _ _ _ _ _ _ us hl => match us, hl with | [_, _, _], _ => rfl
  have D__law_step : CalN l.prog w K mg base "_law_step" 15 ["_law_dice_here", "_law_library_here", "_law_made_here"] (sp__law_stepT K C_Type C_Library PT) := ⟨_, _, ok__law_step (P := l.prog) (w := w) (base := base) T e_InvalidLibrary D__law_names_step D__law_roll D__law_some D__law_pick D__law_kind D_Library_without D_Library_only D__law_made_kind D_some4 D_orX D_withX F__law_got (PySem.W.mg_of X G a__law_got) B__law_got TB F__law_step rfl, PySem.W.mg_of X G a__law_step, k__law_step, B__law_step⟩
  have F__law_text := fun_mk (st := s__law_text) l__law_text c__law_text k__law_text
  have B__law_text := F__law_text.binds (ps := ["_law_kind_here"]) fun _ _ _ _ _ _ us hl => match us, hl with | [_], _ => rfl
  have D__law_text : CalN l.prog w K mg base "_law_text" 7 ["_law_kind_here"] (sp__law_text K) := ⟨_, _, ok__law_text (P := l.prog) (w := w) (base := base) T F__law_text (PySem.W.mg_of X G a__law_text) B__law_text 6, PySem.W.mg_of X G a__law_text, k__law_text, B__law_text⟩
  have F__law_lines := fun_mk (st := s__law_lines) l__law_lines c__law_lines k__law_lines
  have B__law_lines := F__law_lines.binds (ps := ["_law_library_here"]) fun _ _ _ _ _ _ us hl => match us, hl with | [_], _ => rfl
  have D__law_lines : CalN l.prog w K mg base "_law_lines" 8 ["_law_library_here"] (sp__law_lines K) := ⟨_, _, ok__law_lines (P := l.prog) (w := w) (base := base) T D__law_text F__law_lines, PySem.W.mg_of X G a__law_lines, k__law_lines, B__law_lines⟩
  have F__law_right := fun_mk (st := s__law_right) l__law_right c__law_right k__law_right
  have B__law_right := F__law_right.binds (ps := ["_law_dice_here"]) fun _ _ _ _ _ _ us hl => match us, hl with | [_], _ => rfl
  have D__law_right : CalN l.prog w K mg base "_law_right" 16 ["_law_dice_here"] (sp__law_rightT PT) := ⟨_, _, ok__law_right (P := l.prog) (w := w) (base := base) T D__law_library D__law_made D__law_step D__law_roll D_Library_only DJ_Library___init__ D_Library_without D_Library_lines D__law_lines D_Library___eq__ F__law_right, PySem.W.mg_of X G a__law_right, k__law_right, B__law_right⟩
  have F_law := fun_mk (st := s_law) l_law c_law k_law
  exact ok_law (P := l.prog) (w := w) (base := base) T D_Library_read D__law_dice D_Library_lines D_Library_names D_Library_with_atoms D_Library_without D_Type_text D__law_right D_Type_plain D_Library___getitem__ D_withX F_law
end My

open PySem PySem.W PyProof.Rows in
set_option maxRecDepth 100000 in
set_option maxHeartbeats 0 in
theorem PySem.Challenge.cw_fromparts_k13_whole_libraries_changed_st_holds : PySem.Challenge.rw_fromparts_k13_whole_libraries_changed_st.Holds := by
  w_on; o_law; k_head; (case hw => w_witness2)
  k_fill
  refine LamX.walk_ofTs (l := PySem.Challenge.rw_fromparts_k13_whole_libraries_changed_st) (n := 63) (k := 21) (x := "_law_script") (CX := fun _ => L2.CX0) rfl (by decide) rfl ⟨rfl, by decide, by decide⟩ (fun w h Y => PySem.W.km_in_of Y) ?F (fun _ _ _ _ _ z => z)
  case F =>
    intro w mg fa h Y KX G hmg
    have hT8 := PySem.W.km_tabs_of Y
    refine' My.all_mk KX G hmg hT8 ?aC_Type ?pg_Type ?hd_Type ?po_Type ?sa_Type ?mk_Type ?kc_Type ?n_inputs_Type ?n_atom_Type ?n_places_Type ?n_order_Type ?n_text_Type ?fst_Type ?nfs_Type ?ni_str_Type ?tyt_Type ?od_NoneType_Type ?nf_NoneType_Type ?od_int_Type ?nf_int_Type ?od_str_Type ?nf_str_Type ?od_tuple_Type ?nf_tuple_Type ?od_list_Type ?nf_list_Type ?od_dict_Type ?nf_dict_Type ?ne_Type ?un_Type ?cl1_Type ?cl2_Type ?cl3_Type ?cl4_Type ?rd_Type ?ga_Type ?aC_Library ?pg_Library ?hd_Library ?po_Library ?sa_Library ?mk_Library ?kc_Library ?n_parts_Library ?n_names_Library ?n_lines_Library ?fst_Library ?nfs_Library ?ni_str_Library ?tyt_Library ?od_NoneType_Library ?nf_NoneType_Library ?od_int_Library ?nf_int_Library ?od_str_Library ?nf_str_Library ?od_tuple_Library ?nf_tuple_Library ?od_list_Library ?nf_list_Library ?od_dict_Library ?nf_dict_Library ?ne_Library ?un_Library ?cl1_Library ?cl2_Library ?cl3_Library ?cl4_Library ?rd_Library ?ga_Library ?a_is_word ?l_is_word ?c_is_word ?k_is_word ?a__are_parts ?l__are_parts ?c__are_parts ?k__are_parts ?a_Type_text ?g_Type_text ?t_Type_text ?r_Type_text ?l_Type_text ?c_Type_text ?k_Type_text ?a_Library___init__ ?i_Library___init__ ?l_Library___init__ ?lt_Library___init__ ?c_Library___init__ ?k_Library___init__ ?a_Library_parts ?g_Library_parts ?t_Library_parts ?r_Library_parts ?l_Library_parts ?c_Library_parts ?k_Library_parts ?a_Library___contains__ ?i_Library___contains__ ?l_Library___contains__ ?c_Library___contains__ ?k_Library___contains__ ?a_Library___getitem__ ?i_Library___getitem__ ?fi_Library___getitem__ ?l_Library___getitem__ ?c_Library___getitem__ ?k_Library___getitem__ ?a_Type___eq__ ?i_Type___eq__ ?l_Type___eq__ ?c_Type___eq__ ?k_Type___eq__ ?a_Library___or__ ?i_Library___or__ ?l_Library___or__ ?c_Library___or__ ?k_Library___or__ ?a_Library_with_part ?i_Library_with_part ?l_Library_with_part ?c_Library_with_part ?k_Library_with_part ?a__law_got ?l__law_got ?c__law_got ?k__law_got ?a__pieces ?l__pieces ?c__pieces ?k__pieces ?a__is_tuple_of_types ?l__is_tuple_of_types ?c__is_tuple_of_types ?k__is_tuple_of_types ?a_Type_order ?g_Type_order ?t_Type_order ?r_Type_order ?l_Type_order ?c_Type_order ?k_Type_order ?a_Type_inputs ?g_Type_inputs ?t_Type_inputs ?r_Type_inputs ?l_Type_inputs ?c_Type_inputs ?k_Type_inputs ?a__text_inside ?l__text_inside ?c__text_inside ?k__text_inside ?a_Type___init__ ?i_Type___init__ ?l_Type___init__ ?c_Type___init__ ?k_Type___init__ ?a_Type_plain ?r_Type_plain ?fi_Type_plain ?l_Type_plain ?c_Type_plain ?k_Type_plain ?a__read_freely ?l__read_freely ?c__read_freely ?k__read_freely ?a__read_piece ?l__read_piece ?c__read_piece ?k__read_piece ?a_Type_read ?r_Type_read ?fi_Type_read ?l_Type_read ?c_Type_read ?k_Type_read ?a__read_line ?l__read_line ?c__read_line ?k__read_line ?a_Library_read ?r_Library_read ?fi_Library_read ?l_Library_read ?c_Library_read ?k_Library_read ?a__law_dice ?l__law_dice ?c__law_dice ?k__law_dice ?a_Library_lines ?g_Library_lines ?t_Library_lines ?r_Library_lines ?l_Library_lines ?c_Library_lines ?k_Library_lines ?a_Library_names ?g_Library_names ?t_Library_names ?r_Library_names ?l_Library_names ?c_Library_names ?k_Library_names ?a__are_words ?l__are_words ?c__are_words ?k__are_words ?a__is_renaming ?l__is_renaming ?c__is_renaming ?k__is_renaming ?a_Type_atoms ?g_Type_atoms ?t_Type_atoms ?r_Type_atoms ?l_Type_atoms ?c_Type_atoms ?k_Type_atoms ?a_Type_renamed ?i_Type_renamed ?l_Type_renamed ?c_Type_renamed ?k_Type_renamed ?a_Library_atoms ?g_Library_atoms ?t_Library_atoms ?r_Library_atoms ?l_Library_atoms ?c_Library_atoms ?k_Library_atoms ?a_Library_with_atoms ?i_Library_with_atoms ?l_Library_with_atoms ?c_Library_with_atoms ?k_Library_with_atoms ?a_Library__check_names ?i_Library__check_names ?l_Library__check_names ?c_Library__check_names ?k_Library__check_names ?a_Library_without ?i_Library_without ?l_Library_without ?c_Library_without ?k_Library_without ?a__law_roll ?l__law_roll ?c__law_roll ?k__law_roll ?a__law_pick ?l__law_pick ?c__law_pick ?k__law_pick ?a__law_some ?l__law_some ?c__law_some ?k__law_some ?a__law_known_library ?l__law_known_library ?c__law_known_library ?k__law_known_library ?a__law_atoms_of ?l__law_atoms_of ?c__law_atoms_of ?k__law_atoms_of ?a__law_kind ?l__law_kind ?c__law_kind ?k__law_kind ?a__law_library ?l__law_library ?c__law_library ?k__law_library ?a__law_made_kind ?l__law_made_kind ?c__law_made_kind ?k__law_made_kind ?a__law_made ?l__law_made ?c__law_made ?k__law_made ?a__law_library_atoms ?l__law_library_atoms ?c__law_library_atoms ?k__law_library_atoms ?a_Library_renamed ?i_Library_renamed ?l_Library_renamed ?c_Library_renamed ?k_Library_renamed ?a__law_atoms_put ?l__law_atoms_put ?c__law_atoms_put ?k__law_atoms_put ?a_Library___eq__ ?i_Library___eq__ ?l_Library___eq__ ?c_Library___eq__ ?k_Library___eq__ ?a__law_names_step ?l__law_names_step ?c__law_names_step ?k__law_names_step ?a_Library_only ?i_Library_only ?l_Library_only ?c_Library_only ?k_Library_only ?a__law_step ?l__law_step ?c__law_step ?k__law_step ?a__law_text ?l__law_text ?c__law_text ?k__law_text ?a__law_lines ?l__law_lines ?c__law_lines ?k__law_lines ?a__law_right ?l__law_right ?c__law_right ?k__law_right ?a_law ?l_law ?c_law ?k_law ?z_KeyError ?z_RuntimeError ?z_ValueError ?z_abs ?z_all ?z_any ?z_bool ?z_classmethod ?z_dict ?z_enumerate ?z_int ?z_isinstance ?z_iter ?z_len ?z_list ?z_max ?z_min ?z_property ?z_range ?z_set ?z_sorted ?z_str ?z_tuple ?z_zip ?g_MAX_LETTERS ?g_MAX_PLACES ?g_MAX_ORDER ?g__ARROW ?g_MAX_PARTS ?g__COLON ?ea_InvalidOperation ?ex_InvalidOperation ?ek_InvalidOperation ?eb_InvalidOperation ?et_InvalidOperation ?ea_InvalidLibrary ?ex_InvalidLibrary ?ek_InvalidLibrary ?eb_InvalidLibrary ?et_InvalidLibrary ?tk_code ?tp_code ?tm_code ?tn_code ?th_code
    (case aC_Type => k_is)
    (case pg_Type => k_is)
    (case hd_Type => k_is)
    (case po_Type => k_is)
    (case sa_Type => k_is)
    (case mk_Type => k_is)
    (case kc_Type => k_is)
    (case n_inputs_Type => k_is)
    (case n_atom_Type => k_is)
    (case n_places_Type => k_is)
    (case n_order_Type => k_is)
    (case n_text_Type => k_is)
    (case fst_Type => k_is)
    (case nfs_Type => k_is)
    (case ni_str_Type => k_is)
    (case tyt_Type => k_is)
    (case od_NoneType_Type => k_is)
    (case nf_NoneType_Type => k_is)
    (case od_int_Type => k_is)
    (case nf_int_Type => k_is)
    (case od_str_Type => k_is)
    (case nf_str_Type => k_is)
    (case od_tuple_Type => k_is)
    (case nf_tuple_Type => k_is)
    (case od_list_Type => k_is)
    (case nf_list_Type => k_is)
    (case od_dict_Type => k_is)
    (case nf_dict_Type => k_is)
    (case ne_Type => k_is)
    (case un_Type => k_is)
    (case cl1_Type => k_is)
    (case cl2_Type => k_is)
    (case cl3_Type => k_is)
    (case cl4_Type => k_is)
    (case rd_Type => k_is)
    (case ga_Type => k_is)
    (case aC_Library => k_is)
    (case pg_Library => k_is)
    (case hd_Library => k_is)
    (case po_Library => k_is)
    (case sa_Library => k_is)
    (case mk_Library => k_is)
    (case kc_Library => k_is)
    (case n_parts_Library => k_is)
    (case n_names_Library => k_is)
    (case n_lines_Library => k_is)
    (case fst_Library => k_is)
    (case nfs_Library => k_is)
    (case ni_str_Library => k_is)
    (case tyt_Library => k_is)
    (case od_NoneType_Library => k_is)
    (case nf_NoneType_Library => k_is)
    (case od_int_Library => k_is)
    (case nf_int_Library => k_is)
    (case od_str_Library => k_is)
    (case nf_str_Library => k_is)
    (case od_tuple_Library => k_is)
    (case nf_tuple_Library => k_is)
    (case od_list_Library => k_is)
    (case nf_list_Library => k_is)
    (case od_dict_Library => k_is)
    (case nf_dict_Library => k_is)
    (case ne_Library => k_is)
    (case un_Library => k_is)
    (case cl1_Library => k_is)
    (case cl2_Library => k_is)
    (case cl3_Library => k_is)
    (case cl4_Library => k_is)
    (case rd_Library => k_is)
    (case ga_Library => k_is)
    (case a_is_word => k_is)
    (case l_is_word => k_is)
    (case c_is_word => k_is)
    (case k_is_word => k_is)
    (case a__are_parts => k_is)
    (case l__are_parts => k_is)
    (case c__are_parts => k_is)
    (case k__are_parts => k_is)
    (case a_Type_text => k_is)
    (case g_Type_text => k_is)
    (case t_Type_text => k_is)
    (case r_Type_text => k_is)
    (case l_Type_text => k_is)
    (case c_Type_text => k_is)
    (case k_Type_text => k_is)
    (case a_Library___init__ => k_is)
    (case i_Library___init__ => k_is)
    (case l_Library___init__ => k_is)
    (case lt_Library___init__ => k_is)
    (case c_Library___init__ => k_is)
    (case k_Library___init__ => k_is)
    (case a_Library_parts => k_is)
    (case g_Library_parts => k_is)
    (case t_Library_parts => k_is)
    (case r_Library_parts => k_is)
    (case l_Library_parts => k_is)
    (case c_Library_parts => k_is)
    (case k_Library_parts => k_is)
    (case a_Library___contains__ => k_is)
    (case i_Library___contains__ => k_is)
    (case l_Library___contains__ => k_is)
    (case c_Library___contains__ => k_is)
    (case k_Library___contains__ => k_is)
    (case a_Library___getitem__ => k_is)
    (case i_Library___getitem__ => k_is)
    (case fi_Library___getitem__ => k_is)
    (case l_Library___getitem__ => k_is)
    (case c_Library___getitem__ => k_is)
    (case k_Library___getitem__ => k_is)
    (case a_Type___eq__ => k_is)
    (case i_Type___eq__ => k_is)
    (case l_Type___eq__ => k_is)
    (case c_Type___eq__ => k_is)
    (case k_Type___eq__ => k_is)
    (case a_Library___or__ => k_is)
    (case i_Library___or__ => k_is)
    (case l_Library___or__ => k_is)
    (case c_Library___or__ => k_is)
    (case k_Library___or__ => k_is)
    (case a_Library_with_part => k_is)
    (case i_Library_with_part => k_is)
    (case l_Library_with_part => k_is)
    (case c_Library_with_part => k_is)
    (case k_Library_with_part => k_is)
    (case a__law_got => k_is)
    (case l__law_got => k_is)
    (case c__law_got => k_is)
    (case k__law_got => k_is)
    (case a__pieces => k_is)
    (case l__pieces => k_is)
    (case c__pieces => k_is)
    (case k__pieces => k_is)
    (case a__is_tuple_of_types => k_is)
    (case l__is_tuple_of_types => k_is)
    (case c__is_tuple_of_types => k_is)
    (case k__is_tuple_of_types => k_is)
    (case a_Type_order => k_is)
    (case g_Type_order => k_is)
    (case t_Type_order => k_is)
    (case r_Type_order => k_is)
    (case l_Type_order => k_is)
    (case c_Type_order => k_is)
    (case k_Type_order => k_is)
    (case a_Type_inputs => k_is)
    (case g_Type_inputs => k_is)
    (case t_Type_inputs => k_is)
    (case r_Type_inputs => k_is)
    (case l_Type_inputs => k_is)
    (case c_Type_inputs => k_is)
    (case k_Type_inputs => k_is)
    (case a__text_inside => k_is)
    (case l__text_inside => k_is)
    (case c__text_inside => k_is)
    (case k__text_inside => k_is)
    (case a_Type___init__ => k_is)
    (case i_Type___init__ => k_is)
    (case l_Type___init__ => k_is)
    (case c_Type___init__ => k_is)
    (case k_Type___init__ => k_is)
    (case a_Type_plain => k_is)
    (case r_Type_plain => k_is)
    (case fi_Type_plain => k_is)
    (case l_Type_plain => k_is)
    (case c_Type_plain => k_is)
    (case k_Type_plain => k_is)
    (case a__read_freely => k_is)
    (case l__read_freely => k_is)
    (case c__read_freely => k_is)
    (case k__read_freely => k_is)
    (case a__read_piece => k_is)
    (case l__read_piece => k_is)
    (case c__read_piece => k_is)
    (case k__read_piece => k_is)
    (case a_Type_read => k_is)
    (case r_Type_read => k_is)
    (case fi_Type_read => k_is)
    (case l_Type_read => k_is)
    (case c_Type_read => k_is)
    (case k_Type_read => k_is)
    (case a__read_line => k_is)
    (case l__read_line => k_is)
    (case c__read_line => k_is)
    (case k__read_line => k_is)
    (case a_Library_read => k_is)
    (case r_Library_read => k_is)
    (case fi_Library_read => k_is)
    (case l_Library_read => k_is)
    (case c_Library_read => k_is)
    (case k_Library_read => k_is)
    (case a__law_dice => k_is)
    (case l__law_dice => k_is)
    (case c__law_dice => k_is)
    (case k__law_dice => k_is)
    (case a_Library_lines => k_is)
    (case g_Library_lines => k_is)
    (case t_Library_lines => k_is)
    (case r_Library_lines => k_is)
    (case l_Library_lines => k_is)
    (case c_Library_lines => k_is)
    (case k_Library_lines => k_is)
    (case a_Library_names => k_is)
    (case g_Library_names => k_is)
    (case t_Library_names => k_is)
    (case r_Library_names => k_is)
    (case l_Library_names => k_is)
    (case c_Library_names => k_is)
    (case k_Library_names => k_is)
    (case a__are_words => k_is)
    (case l__are_words => k_is)
    (case c__are_words => k_is)
    (case k__are_words => k_is)
    (case a__is_renaming => k_is)
    (case l__is_renaming => k_is)
    (case c__is_renaming => k_is)
    (case k__is_renaming => k_is)
    (case a_Type_atoms => k_is)
    (case g_Type_atoms => k_is)
    (case t_Type_atoms => k_is)
    (case r_Type_atoms => k_is)
    (case l_Type_atoms => k_is)
    (case c_Type_atoms => k_is)
    (case k_Type_atoms => k_is)
    (case a_Type_renamed => k_is)
    (case i_Type_renamed => k_is)
    (case l_Type_renamed => k_is)
    (case c_Type_renamed => k_is)
    (case k_Type_renamed => k_is)
    (case a_Library_atoms => k_is)
    (case g_Library_atoms => k_is)
    (case t_Library_atoms => k_is)
    (case r_Library_atoms => k_is)
    (case l_Library_atoms => k_is)
    (case c_Library_atoms => k_is)
    (case k_Library_atoms => k_is)
    (case a_Library_with_atoms => k_is)
    (case i_Library_with_atoms => k_is)
    (case l_Library_with_atoms => k_is)
    (case c_Library_with_atoms => k_is)
    (case k_Library_with_atoms => k_is)
    (case a_Library__check_names => k_is)
    (case i_Library__check_names => k_is)
    (case l_Library__check_names => k_is)
    (case c_Library__check_names => k_is)
    (case k_Library__check_names => k_is)
    (case a_Library_without => k_is)
    (case i_Library_without => k_is)
    (case l_Library_without => k_is)
    (case c_Library_without => k_is)
    (case k_Library_without => k_is)
    (case a__law_roll => k_is)
    (case l__law_roll => k_is)
    (case c__law_roll => k_is)
    (case k__law_roll => k_is)
    (case a__law_pick => k_is)
    (case l__law_pick => k_is)
    (case c__law_pick => k_is)
    (case k__law_pick => k_is)
    (case a__law_some => k_is)
    (case l__law_some => k_is)
    (case c__law_some => k_is)
    (case k__law_some => k_is)
    (case a__law_known_library => k_is)
    (case l__law_known_library => k_is)
    (case c__law_known_library => k_is)
    (case k__law_known_library => k_is)
    (case a__law_atoms_of => k_is)
    (case l__law_atoms_of => k_is)
    (case c__law_atoms_of => k_is)
    (case k__law_atoms_of => k_is)
    (case a__law_kind => k_is)
    (case l__law_kind => k_is)
    (case c__law_kind => k_is)
    (case k__law_kind => k_is)
    (case a__law_library => k_is)
    (case l__law_library => k_is)
    (case c__law_library => k_is)
    (case k__law_library => k_is)
    (case a__law_made_kind => k_is)
    (case l__law_made_kind => k_is)
    (case c__law_made_kind => k_is)
    (case k__law_made_kind => k_is)
    (case a__law_made => k_is)
    (case l__law_made => k_is)
    (case c__law_made => k_is)
    (case k__law_made => k_is)
    (case a__law_library_atoms => k_is)
    (case l__law_library_atoms => k_is)
    (case c__law_library_atoms => k_is)
    (case k__law_library_atoms => k_is)
    (case a_Library_renamed => k_is)
    (case i_Library_renamed => k_is)
    (case l_Library_renamed => k_is)
    (case c_Library_renamed => k_is)
    (case k_Library_renamed => k_is)
    (case a__law_atoms_put => k_is)
    (case l__law_atoms_put => k_is)
    (case c__law_atoms_put => k_is)
    (case k__law_atoms_put => k_is)
    (case a_Library___eq__ => k_is)
    (case i_Library___eq__ => k_is)
    (case l_Library___eq__ => k_is)
    (case c_Library___eq__ => k_is)
    (case k_Library___eq__ => k_is)
    (case a__law_names_step => k_is)
    (case l__law_names_step => k_is)
    (case c__law_names_step => k_is)
    (case k__law_names_step => k_is)
    (case a_Library_only => k_is)
    (case i_Library_only => k_is)
    (case l_Library_only => k_is)
    (case c_Library_only => k_is)
    (case k_Library_only => k_is)
    (case a__law_step => k_is)
    (case l__law_step => k_is)
    (case c__law_step => k_is)
    (case k__law_step => k_is)
    (case a__law_text => k_is)
    (case l__law_text => k_is)
    (case c__law_text => k_is)
    (case k__law_text => k_is)
    (case a__law_lines => k_is)
    (case l__law_lines => k_is)
    (case c__law_lines => k_is)
    (case k__law_lines => k_is)
    (case a__law_right => k_is)
    (case l__law_right => k_is)
    (case c__law_right => k_is)
    (case k__law_right => k_is)
    (case a_law => k_is)
    (case l_law => k_is)
    (case c_law => k_is)
    (case k_law => k_is)
    (case z_KeyError => k_is)
    (case z_RuntimeError => k_is)
    (case z_ValueError => k_is)
    (case z_abs => k_is)
    (case z_all => k_is)
    (case z_any => k_is)
    (case z_bool => k_is)
    (case z_classmethod => k_is)
    (case z_dict => k_is)
    (case z_enumerate => k_is)
    (case z_int => k_is)
    (case z_isinstance => k_is)
    (case z_iter => k_is)
    (case z_len => k_is)
    (case z_list => k_is)
    (case z_max => k_is)
    (case z_min => k_is)
    (case z_property => k_is)
    (case z_range => k_is)
    (case z_set => k_is)
    (case z_sorted => k_is)
    (case z_str => k_is)
    (case z_tuple => k_is)
    (case z_zip => k_is)
    (case g_MAX_LETTERS => k_is)
    (case g_MAX_PLACES => k_is)
    (case g_MAX_ORDER => k_is)
    (case g__ARROW => k_is)
    (case g_MAX_PARTS => k_is)
    (case g__COLON => k_is)
    (case ea_InvalidOperation => k_is)
    (case ex_InvalidOperation => kernel_rfl)
    (case ek_InvalidOperation => k_is)
    (case eb_InvalidOperation => k_is)
    (case et_InvalidOperation => k_is)
    (case ea_InvalidLibrary => k_is)
    (case ex_InvalidLibrary => kernel_rfl)
    (case ek_InvalidLibrary => k_is)
    (case eb_InvalidLibrary => k_is)
    (case et_InvalidLibrary => k_is)
    (case tk_code => k_is)
    (case tp_code => rfl)
    (case tm_code => decide)
    (case tn_code => kernel_rfl)
    (case th_code => kernel_rfl)
