import PyProof.Rows.All
import Wide.All
import OpenK.AllK
import Wide.FinOn
import HandS.ForMost
import HandS.IsInst
import HandS.Steps
import HandS.Property
import HandS.ClsMeth
import HandS.FStr
import PyProof.ListStr
import PyProof.CallFns
import PyProof.Rows.RuleB_pow
import KE.KOpsOwn
import OpenK.KMeth
import HandS.RaiseMore
import KE.KCallOwn
import HandS.TupMul
import KE.KDictZip
import KE.GoesMore
import KE.GoesEnum
import PyProof.ListNew
import HandS.Zip
import HandS.ListItems
import KE.KDictSum
import HandS.SetTxt0
import HandS.SetFor
import HandS.Strs
import HandS.Iter
import HandS.Walk
import HandS.Comp
import HandS.Style
import HandS.TupAny
import HandS.Flow
import HandS.Dict
import HandS.DictComp
import HandS.WordsDict
import KE.BitLaws
import HandS.WideBits
import PyProof.ExcBaseAll.ValueError
import HandS.WordsExc
import KE.DatumMoreOrd
import KE.DatumOrd
import HandS.Conv
import HandS.More
import HandS.TryOnly
import PyProof.P3Eq
import PySem.Challenge.RW_fromparts_k30_rooms_judged
set_option Elab.async false
set_option linter.all false
set_option maxRecDepth 100000
set_option maxHeartbeats 2000000
namespace My
open PySem PySem.Spec PyProof.Rows L2 TL
/-! ### defs called where no repr is under way: what A.guards says is handed down -/
structure FnOkG (P : Program) (w : World) (K : PySem.W.Frag) (mg : Str → Option Value) (base : Heap) (CX : CXT) (k : Nat) (f : Addr) (fd : FuncData) (ps : List Str) (sp : Sp) : Prop where
  arity : ∀ vs H Q E, sp vs H Q E → vs.length = ps.length
  go : ∀ (B : Around) (fr : List Env) (t : Shared) (H : Hp) (ar : Args) (us : List Value) (vs : List V) (Q : VK) (E : XK), Room k B → B.guards = some [] → Env0 P w K mg base B fr t H → BindsTo t fd ar (ps.zip us) → Vals vs us → sp vs H Q E →
    codeAny (model P w) B (.call (.ref f) ar) (CR CX fr P w H t Q E) t
theorem FnOkG.lift {P : Program} {w : World} {K : PySem.W.Frag} {mg : Str → Option Value} {base : Heap} {CX : CXT} {k : Nat} {f : Addr} {fd : FuncData} {ps : List Str} {sp : Sp}
    (F : FnOk P w K mg base CX k f fd ps sp) : FnOkG P w K mg base CX k f fd ps sp := ⟨F.len, fun B fr t H ar us vs Q E hr _ => F.run B fr t H ar us vs Q E hr⟩
section
variable {P : Program} {w : World} {K : PySem.W.Frag} {mg : Str → Option Value} {base : Heap}
theorem _root_.L2.Fun.okG {CX : CXT} {x qual : Str} {st : Stmt} {f : Addr} {fd : FuncData} {N ps : List Str} {k : Nat} {sp : Sp} (F : Fun K x qual st f fd) (S : FnScope N ps (defScope st)) (ar : ∀ vs H Q E, sp vs H Q E → vs.length = ps.length)
    (body : ∀ (cv : Value) (B : Around) (fr : List Env) (t : Shared) (H : Hp) (vs : List V) (Q : VK) (E : XK), Room k (B.deeper (envOfC qual (defScope st) t.heap.objs.size f cv)) → (B.deeper (envOfC qual (defScope st) t.heap.objs.size f cv)).guards = some [] → sp vs H Q E →
      ∃ r, PSs (cxOf CX P w K mg base N qual (defScope st) f cv B fr t H E).nox (defBody st) r ∧ r { nx := fun _ H' => Q .non H', rt := Q } (start N vs) H) : FnOkG P w K mg base CX (k + 1) f fd ps sp := by
  obtain ⟨oc, od, kV, doc, pm, an, cv, ct, osl, rfl, found, isCode⟩ := F.ex
  refine ⟨ar, fun B fr t H args us vs Q E room still env binds vals wish => ?_⟩
  have there : K.In t.heap := env.mod.kin.keeps (fun b o e => (env.bs b o e).1)
  have noLim : t.heap.NoLimit := env.mod.nolimit.keeps (fun b o e => (env.bs b o e).1)
  have kinds : ∀ y ∈ ps.zip us, (defScope st).names.lookup y.1 = some .local ∨ ((defScope st).names.lookup y.1 = some .cell ∧ ((cellsFrom (t.heap.objs.size + 1) (defScope st).names []).lookup y.1).isSome = true) := by
    rintro ⟨n, v⟩ hy
    exact (S.par n (List.of_mem_zip hy).1).imp id fun q => ⟨q, PySem.W.cellsFrom_some _ _ _ (.inl q)⟩
  refine codeAny_call_function room.depth (there _ _ found)
    rfl S.co S.gen rfl (PySem.W.codeRec_of there isCode) (binds _ _ _ _
      (wpAny_newFunctionEnv_cells S.kind kinds fun env' eq t1 start1 => ?_))
  subst eq
  refine ⟨noLim.keeps start1.toInCall.keep, codeAny_func ?_⟩
  obtain ⟨r, runs, ends⟩ := body cv B fr t H vs Q E (room.deeper _) still wish
  refine wpAny_mono (runs.nox.run [] t1 (start N vs) H _ (inv_start S room.hd env (ar _ _ _ _ wish) vals start1) ends) ?_ fun _ _ z => z
  intro fl t2 got
  cases fl with
  | ret u =>
    obtain ⟨v, σ', H', J, rv, q⟩ := got
    exact ⟨v, H', J.os, J.bare, J.base, J.hok, rv, q⟩
  | next =>
    obtain ⟨σ', H', J, q⟩ := got
    exact ⟨V.non, H', J.os, J.bare, J.base, J.hok, rfl, q⟩
  | brk => exact got.choose_spec.choose_spec.2.elim
  | cont => exact got.choose_spec.choose_spec.2.elim
end
/-! ### defs by their promises -/
structure Cal (P : Program) (w : World) (K : PySem.W.Frag) (mg : Str → Option Value) (base : Heap) (x : Str) (k : Nat) (ps : List Str) (sp : Sp) : Prop where
  ex : ∃ f fd, FnOkG P w K mg base CX0 k f fd ps sp ∧ mg x = some (.ref f) ∧ PySem.W.keepIn K (.ref f) = true ∧ Binds K fd ps []
theorem Cal.of {P : Program} {w : World} {K : PySem.W.Frag} {mg : Str → Option Value} {base : Heap} {x q : Str} {k : Nat} {ps : List Str} {sp : Sp} {st : Stmt} {f : Addr} {fd : FuncData}
    (F : Fun K x q st f fd) (hm : mg x = some (.ref f)) (hb : Binds K fd ps []) (ok : FnOkG P w K mg base CX0 k f fd ps sp) : Cal P w K mg base x k ps sp := ⟨f, fd, ok, hm, F.kp, hb⟩
section
variable {X : Cx} {k : Nat} {f : Addr} {fd : FuncData} {ps : List Str} {sp : Sp} {ds : List Value} {dvs : List V} {E : XK} {CX : CXT}
/-- the callee runs, no repr under way -/
theorem run_fnG {pins : List (Addr × Obj)} {σ : L2.St} {H : Hp} {s : Shared} {Q : VK} {us : List Value} {vs : List V} (F : FnOkG X.prog X.w X.K X.mg X.base CX k f fd ps sp) (room : Room k X.A) (still : X.A.guards = some [])
    (binds : Binds X.K fd ps ds) (dv : Vals dvs ds) (pass : Passes CX X E) (I : Inv X pins σ H s) (rel : Vals vs us) (wish : sp (vs ++ dvs) H Q E) : wpAny (model X.prog X.w) X.A (call (.ref f) us) (EP X pins σ Q) X.xe s := by
  have both := rel.append dv
  have len : (us ++ ds).length = ps.length := both.length.symm.trans (F.arity _ _ _ _ wish)
  have ran := F.go X.A X.stack s H ⟨us, []⟩ (us ++ ds) (vs ++ dvs) Q E room still I.env0 (binds s us I.kIn len) both wish
  refine wpAny_call (codeAny_mono ran ?_)
  intro r s' h
  match r, h with
  | .error e, h => exact pass pins σ H s e s' I h
  | .ok (.ret u), h => exact I.after h
  | .ok .next, h => exact False.elim h
  | .ok .brk, h => exact False.elim h
  | .ok .cont, h => exact False.elim h
end
section
variable {X : Cx} {x : Str} {k : Nat} {ps : List Str} {sp : Sp} {e : Expr} {es : List Expr} {t : TA} {p pos : Pos}
theorem pe_callC (C : Cal X.prog X.w X.K X.mg X.base x k ps sp) (room : Room k X.A) (still : X.A.guards = some []) (hg : Gl X x) (ha : PA X (e :: es) t) (hdb : (x == ("__debug__" : Str)) = false := by decide)
    (he : starEach (e :: es) X.env = (false, eval e X.env) :: starEach es X.env := by rfl) (hpl : (backTo pos (starEach es X.env)).any (·.1) = false := by rfl) :
    PE X (.Call (.Name x p) (e :: es) [] pos) (tCall sp [] E0 t) := by
  obtain ⟨f, fd, ok, hm, kp, hb⟩ := C.ex
  refine ⟨fun pins s σ H Q I h => wpAny_Call_Name_kw (ld_glob I hg hm ?_ hdb)⟩
  have args := thn (ha.run pos pins s σ H _ I h) (Q' := fun us s1 => X.K.In s1.heap ∧ wpAny (model X.prog X.w) X.A (call (.ref f) us) (EP X pins σ Q) X.xe s1) fun us s1 ⟨vs, H1, I1, r, q⟩ =>
    ⟨I1.kIn, run_fnG ok room still hb .nil pass0 I1 r q⟩
  exact PySem.W.callWith_K (h₀ := X.base) I.ok.mod.kin kp args he hpl
theorem pe_globE {x : Str} {v : V} (hg : Gl X x) (h : ∃ u, X.mg x = some u ∧ RelV v u) (hd : (x == ("__debug__" : Str)) = false := by decide) : PE X (.Name x pos) (tC v) := by
  obtain ⟨u, hm, r⟩ := h
  exact pe_glob hg hm r hd
theorem op_powW : OpR X (binaryOp .Pow) (rI (fun i j => 0 ≤ j ∧ (Builtin.Int.intBits i : Int) * j ≤ 2 ^ 27) fun i j => .int (i ^ j.toNat)) := opI fun _ _ _ _ _ _ _ hc q => PyProof.Rows.pow_int hc.1 hc.2 q
theorem call_repr_bl : CallR X (.builtin "repr") (fun xs H Q => ∃ b, xs = [.bl b] ∧ Q (.str (if b then "True" else "False")) H) := by
  intro pins s σ H xs us Q I r h
  obtain ⟨b, rfl, q⟩ := h
  obtain ⟨u, rfl, r1⟩ := vals1 r
  cases r1
  exact PySem.P.repr_of_bool ⟨.str _, H, I.tok _, ⟨_, rfl⟩, q⟩
def sgnV (x : Str) : List V := x.cps.toList.map fun c => V.str ⟨#[c]⟩
theorem vals_signs : ∀ (l : List Nat) (ys : List Value), ys.length = l.length → (∀ (j : Nat) (v : Value), ys[j]? = some v → ∃ c u, l[j]? = some c ∧ v = .str ⟨#[c]⟩ u) → Vals (l.map fun c => V.str ⟨#[c]⟩) ys
  | [], [], _, _ => .nil
  | [], _ :: _, h, _ => by simp at h
  | _ :: _, [], h, _ => by simp at h
  | c :: l, y :: ys, h, f => by
    obtain ⟨c', u, e1, e2⟩ := f 0 y rfl
    have e3 : c = c' := Option.some.inj e1
    subst e3
    exact .cons ⟨u, e2⟩ (vals_signs l ys (by simpa using h) fun j v e => f (j + 1) v e)
theorem call_list_text (hc : X.calm = true) : CallR X (.type "list") (fun xs H Q => ∃ x : Str, xs = [.str x] ∧ x.length ≤ sizeLine ∧ ∀ l, H l = none → Q (.ref l) (upd H l (.lst (sgnV x)))) := by
  intro pins s σ H xs us Q I r h
  obtain ⟨x, rfl, hz, q⟩ := h
  obtain ⟨u, rfl, t, rfl⟩ := vals1 r
  refine call_list_str (hn := hz) (I.ok.hd hc) x t fun h' tk acc' c' hk hS' hacc => ?_
  have hv : Vals (sgnV x) acc'.toList := vals_signs _ _ (by simp [hacc.1]) fun j v e => by
    obtain ⟨c, u, h1, h2⟩ := hacc.2 j v (by simpa using e)
    exact ⟨c, u, by simpa using h1, h2⟩
  exact ⟨.ref s.heap.objs.size, _, I.laid (t' := tk) hk (Nat.le_refl _) (show ObjOk X.prog X.w _ h' _ (.lst (sgnV x)) from ⟨by simp [sgnV]; exact hz, acc'.toList, c', hv, by simpa using hS'⟩), rfl, q _ (I.hok.fresh (Nat.le_refl _))⟩
end
/-! ### heaps: all stands but the dice -/
def Ext (d : Addr) (H H' : Hp) : Prop := ∀ a o, a ≠ d → H a = some o → H' a = some o
theorem Ext.refl {d : Addr} (H : Hp) : Ext d H H := fun _ _ _ h => h
theorem Ext.trans {d : Addr} {H H1 H2 : Hp} (a : Ext d H H1) (b : Ext d H1 H2) : Ext d H H2 := fun x o n h => b x o n (a x o n h)
theorem Ext.new {d : Addr} {H H1 : Hp} (a : Ext d H H1) {p : Addr} {o : HO} (h : H1 p = none) : Ext d H (upd H1 p o) := fun x u n e => by
  rw [upd_ne (ne_of_none (a x u n e) h)]
  exact a x u n e
theorem Ext.same {d : Addr} {H H' : Hp} (h : Same H H') : Ext d H H' := fun a o _ e => h a o e
theorem Ext.set {d : Addr} {H : Hp} {o : HO} : Ext d H (upd H d o) := fun a u n e => by
  rw [upd_ne n]
  exact e
theorem Ext.mut {d : Addr} {H H1 : Hp} (a : Ext d H H1) {p : Addr} {o : HO} (h : H p = none) : Ext d H (upd H1 p o) := fun x u n e => by
  rw [upd_ne (ne_of_none e h)]
  exact a x u n e
theorem Ext.none {d : Addr} {H H' : Hp} (e : Ext d H H') {l : Addr} (n : l ≠ d) (h : H' l = Option.none) : H l = Option.none := by
  cases q : H l with
  | none => rfl
  | some o =>
    rw [e l o n q] at h
    cases h
theorem _root_.L2.Same.new {H H1 : Hp} (a : Same H H1) {p : Addr} {o : HO} (h : H1 p = none) : Same H (upd H1 p o) := fun x u e => by
  rw [upd_ne (ne_of_none (a x u e) h)]
  exact a x u e
theorem _root_.L2.Same.mut {H H1 : Hp} (a : Same H H1) {p : Addr} {o : HO} (h : H p = none) : Same H (upd H1 p o) := fun x u e => by
  rw [upd_ne (ne_of_none e h)]
  exact a x u e
def IsDice (H : Hp) (d : Addr) : Prop := ∃ a b c : Int, H d = some (.lst [.int a, .int b, .int c])
theorem IsDice.some {H : Hp} {d : Addr} (h : IsDice H d) : ∃ o, H d = Option.some o := ⟨_, h.choose_spec.choose_spec.choose_spec⟩
theorem IsDice.ne {H : Hp} {d l : Addr} (h : IsDice H d) (n : H l = none) : l ≠ d := by
  obtain ⟨o, e⟩ := h.some
  exact fun z => by
    rw [z, e] at n
    cases n
theorem IsDice.new {H : Hp} {d p : Addr} {o : HO} (h : IsDice H d) (n : H p = none) : IsDice (upd H p o) d := by
  have hn := h.ne n
  obtain ⟨a, b, c, e⟩ := h
  exact ⟨a, b, c, by rw [upd_ne hn.symm]; exact e⟩
theorem IsDice.mut {H : Hp} {d p : Addr} {o : HO} (h : IsDice H d) (n : p ≠ d) : IsDice (upd H p o) d := by
  obtain ⟨a, b, c, e⟩ := h
  exact ⟨a, b, c, by rw [upd_ne n.symm]; exact e⟩
theorem IsDice.same {H H' : Hp} {d : Addr} (h : IsDice H d) (s : Same H H') : IsDice H' d := by
  obtain ⟨a, b, c, e⟩ := h
  exact ⟨a, b, c, s _ _ e⟩
/-- where lists stand -/
theorem sql_ext {K : PySem.W.Frag} {H H' : Hp} {d a : Addr} {xs : List V} (e : Ext d H H') (n : a ≠ d) (h : SqL K H a xs) : SqL K H' a xs := by
  rcases h with (h | ⟨o, h⟩) | h
  · exact .inl (.inl (e _ _ n h))
  · exact .inl (.inr ⟨o, e _ _ n h⟩)
  · exact .inr h
theorem lt_line {n : Nat} (h : n ≤ 1000000) : n ≤ sizeLine := Nat.le_trans h (by decide)
theorem lt_line' {n : Nat} (h : n < 1000000) : n < sizeLine := Nat.lt_of_lt_of_le h (by decide)
/-! ### the dice's promises -/
/-- a new dice; the list of the script, an index -/
def sp__law_dice (K : PySem.W.Frag) : Sp := fun vs H Q _ => ∃ (a : Addr) (ns : List Int) (i : Int), vs = [.ref a, .int i] ∧ SqL K H a (ns.map V.int) ∧ 0 ≤ i ∧ i < 64 ∧
  ∀ d o, H d = none → IsDice (upd H d o) d → Q (.ref d) (upd H d o)
def sp__law_roll (_ : PySem.W.Frag) : Sp := fun vs H Q _ => ∃ (d : Addr) (n : Int), vs = [.ref d, .int n] ∧ IsDice H d ∧ 0 < n ∧ n < 1073741824 ∧
  ∀ r H', 0 ≤ r → r < n → Ext d H H' → IsDice H' d → Q (.int r) H'
def sp__law_pick (K : PySem.W.Frag) : Sp := fun vs H Q _ => ∃ (d l : Addr) (xs : List V), vs = [.ref d, .ref l] ∧ IsDice H d ∧ SqL K H l xs ∧ l ≠ d ∧ xs ≠ [] ∧ xs.length < 1000000 ∧
  ∀ x H', x ∈ xs → Ext d H H' → IsDice H' d → Q x H'
def sp__law_some (K : PySem.W.Frag) : Sp := fun vs H Q _ => ∃ (d l : Addr) (xs : List V) (n : Int), vs = [.ref d, .ref l, .int n] ∧ IsDice H d ∧ SqL K H l xs ∧ l ≠ d ∧ xs.length < 1000000 ∧ 0 ≤ n ∧
  ∀ p ys H', (∀ y ∈ ys, y ∈ xs) → ys.length ≤ xs.length → H p = none → p ≠ d → H' p = some (.lst ys) → Ext d H H' → IsDice H' d → Q (.ref p) H'
/-! ### a comprehension over a text -/
theorem lc_txt {x : Str} {g : TG} {tt : TT} {te : TE} {vs : List Nat} {σ : L2.St} {H1 : Hp} {D : Addr} {Qd : Hp → Prop} (Pv : Nat → Hp → Prop) (h0 : Pv 0 (upd H1 D (.lst [])))
    (hs : ∀ i c H, x.cps.toList[i]? = some c → Pv i H → g (.str ⟨#[c]⟩) (wipe σ vs) H fun σ2 H2 => wipe σ2 vs = wipe σ vs ∧ tt σ2 H2 fun b H3 =>
      if b = true then te σ2 H3 fun y H4 => ∃ acc, H4 D = some (.lst acc) ∧ acc.length < sizeLine ∧ Pv (i + 1) (upd H4 D (.lst (acc ++ [y]))) else Pv (i + 1) H3) (hd : ∀ H, Pv x.cps.toList.length H → Qd H) :
    ∃ W : Nat → Nat → Hp → Prop, (∃ m, W 0 m (upd H1 D (.lst []))) ∧ ∀ i m H, W i m H →
      ((Its x).stop i H ∧ Qd H) ∨ ((Its x).go i H ∧ ∃ Nx : Hp → Prop, (∀ H', Nx H' → ∃ m', m' < m ∧ W (i + 1) m' H') ∧ ∀ v H', (Its x).yld i H v H' → g v (wipe σ vs) H' fun σ2 H2 => wipe σ2 vs = wipe σ vs ∧ tt σ2 H2 fun b H3 =>
        if b = true then te σ2 H3 fun y H4 => ∃ acc, H4 D = some (.lst acc) ∧ acc.length < sizeLine ∧ Nx (upd H4 D (.lst (acc ++ [y]))) else Nx H3) := by
  refine ⟨fun i m H => m = x.cps.size - i ∧ i ≤ x.cps.size ∧ Pv i H, ⟨x.cps.size, by simp, Nat.zero_le _, h0⟩, ?_⟩
  rintro i m H ⟨rfl, hi, p⟩
  by_cases hlt : i < x.cps.size
  · refine .inr ⟨hlt, Pv (i + 1), fun H' p' => ⟨x.cps.size - (i + 1), by omega, rfl, hlt, p'⟩, fun v H' y => ?_⟩
    obtain ⟨e, c, ec, ev⟩ := y
    subst e ev
    exact hs i c _ (by simpa using ec) p
  · have e : i = x.cps.size := by omega
    exact .inl ⟨by show x.cps.size ≤ i; omega, hd H (by rw [e] at p; simpa using p)⟩
/-- flat data -/
theorem shaped_flat {ds : List PyData} (h : ∀ d ∈ ds, d.canLay0 = true ∧ d.depth = 0) : SeqAt.shaped (.list ds) = true ∧ SeqAt.shaped (.tuple ds) = true := by
  have a : ∀ ds : List PyData, (∀ d ∈ ds, d.canLay0 = true ∧ d.depth = 0) → PyData.canLayAll0 ds = true ∧ PyData.depthAll ds = 0 := by
    intro ds
    induction ds with
    | nil => intro _; exact ⟨rfl, rfl⟩
    | cons d r ih =>
      intro h
      have h1 := h d (List.mem_cons_self ..)
      have h2 := ih fun x hx => h x (List.mem_cons_of_mem _ hx)
      exact ⟨by rw [PyData.canLayAll0, h1.1, h2.1]; rfl, by rw [PyData.depthAll, h1.2, h2.2]; rfl⟩
  obtain ⟨a1, a2⟩ := a ds h
  constructor <;> (unfold SeqAt.shaped; rw [PyData.canLay0, PyData.depth, a1, a2]; rfl)
theorem strOk_ascii {x : Str} (h : ∀ c ∈ x.cps.toList, c < 128) : PyData.strOk x = true := by
  unfold PyData.strOk
  rw [← Array.all_toList]
  exact List.all_eq_true.mpr fun c hc => by
    have := h c hc
    simp
    omega
/-! ### comprehensions whose parts speak of the place where they stand -/
section
variable {X : Cx}
abbrev Dep (α : Type) := Shared → Hp → Addr → List (Str × Addr) → List Addr → α
abbrev Dep.at {α : Type} (t : Dep α) (X : Cx) : α := t X.s_0 X.H_0 0 [] []
theorem pe_lcD {elt tg iter : Expr} {ifs : List Expr} {scope : Scope} {own : List (Str × Nat)} {pos : Pos} {wi : TI} {g : Dep TG} {tt : Dep TT} {te : Dep TE} (hc : X.calm = true) (hN : X.N.Nodup) (hi : PI X tg iter wi) (ok : BlkOk X.N X.env.scope scope own)
    (hg : ∀ (s : Shared) (H : Hp) (C : Addr) (cl : List (Str × Addr)) (fp : List Addr), PG (X.blk s H scope (compEnvC scope cl C X.env) fp) tg (g s H C cl fp)) (ht : ∀ (s : Shared) (H : Hp) (C : Addr) (cl : List (Str × Addr)) (fp : List Addr), PTs (X.blk s H scope (compEnvC scope cl C X.env) fp) ifs (tt s H C cl fp))
    (he : ∀ (s : Shared) (H : Hp) (C : Addr) (cl : List (Str × Addr)) (fp : List Addr), PE (X.blk s H scope (compEnvC scope cl C X.env) fp) elt (te s H C cl fp)) (hs : ∀ x, foldedSetIterable iter X.env x = pure x := by intro _; rfl)
    (eg : ∀ s H C cl fp, g s H C cl fp = g.at X := by intros; rfl) (et : ∀ s H C cl fp, tt s H C cl fp = tt.at X := by intros; rfl) (ee : ∀ s H C cl fp, te s H C cl fp = te.at X := by intros; rfl) :
    PE X (.ListComp elt [⟨tg, iter, ifs, 0⟩] scope pos) (tLc wi (g.at X) (tt.at X) (te.at X) (own.map (·.2))) :=
  pe_lc hc hN hi ok (fun s H C cl fp => eg s H C cl fp ▸ hg s H C cl fp) (fun s H C cl fp => et s H C cl fp ▸ ht s H C cl fp) (fun s H C cl fp => ee s H C cl fp ▸ he s H C cl fp) hs
theorem ps_setLcD {i : Nat} {y : Str} {py : Pos} {elt tg iter : Expr} {ifs : List Expr} {scope : Scope} {own : List (Str × Nat)} {pos spos : Pos} {wi : TI} {g : Dep TG} {tt : Dep TT} {te : Dep TE} (hc : X.calm = true) (hN : X.N.Nodup) (hy : X.N[i]? = some y) (hyl : X.env.scope.names.lookup y = some .local)
    (hsw : swapsWith (.ListComp elt [⟨tg, iter, ifs, 0⟩] scope pos) (some (.Name y py)) spos.line X.env = pure true) (hi : PI X tg iter wi) (ok : BlkOk X.N X.env.scope scope own)
    (hg : ∀ (s : Shared) (H : Hp) (C : Addr) (cl : List (Str × Addr)) (fp : List Addr), PG (X.blk s H scope (compEnvC scope cl C X.env) fp) tg (g s H C cl fp)) (ht : ∀ (s : Shared) (H : Hp) (C : Addr) (cl : List (Str × Addr)) (fp : List Addr), PTs (X.blk s H scope (compEnvC scope cl C X.env) fp) ifs (tt s H C cl fp))
    (he : ∀ (s : Shared) (H : Hp) (C : Addr) (cl : List (Str × Addr)) (fp : List Addr), PE (X.blk s H scope (compEnvC scope cl C X.env) fp) elt (te s H C cl fp)) (hs : ∀ x, foldedSetIterable iter X.env x = pure x := by intro _; rfl)
    (eg : ∀ s H C cl fp, g s H C cl fp = g.at X := by intros; rfl) (et : ∀ s H C cl fp, tt s H C cl fp = tt.at X := by intros; rfl) (ee : ∀ s H C cl fp, te s H C cl fp = te.at X := by intros; rfl) :
    PS X (.Assign [.Name y py] (.ListComp elt [⟨tg, iter, ifs, 0⟩] scope pos) spos) (tAsg (tLc wi (g.at X) (tt.at X) (te.at X) (own.map (·.2))) (gName i)) :=
  ps_setLc hc hN hy hyl hsw hi ok (fun s H C cl fp => eg s H C cl fp ▸ hg s H C cl fp) (fun s H C cl fp => et s H C cl fp ▸ ht s H C cl fp) (fun s H C cl fp => ee s H C cl fp ▸ he s H C cl fp) hs
end
theorem tyes {σ : L2.St} {H : Hp} {A B : Hp → Prop} (h : A H) : tYes σ H (fun b H3 => if b = true then A H3 else B H3) := by
  show (if true = true then A H else B H)
  exact iteT h
/-- the law -/
def sp_law (K : PySem.W.Frag) : Sp := fun vs H Q _ => ∃ (a : Addr) (ns : List Int), vs = [.ref a] ∧ SqL K H a (ns.map V.int) ∧ ns.length ≤ 63 ∧ ∀ H', Q (.bl true) H'
theorem same_ext {H H1 H2 : Hp} {d : Addr} (s : Same H H1) (n : H d = none) (e : Ext d H1 H2) : Same H H2 := fun a o h => e a o (ne_of_none h n) (s a o h)
/-- how many cells the law looks at -/
theorem cells_ok {n : Nat} (h : n ≤ 63) : ∀ j : Int, j = (if (if (n : Int) < 8 then (n : Int) else 8) > 1 then (if (n : Int) < 8 then (n : Int) else 8) else 1) → 1 ≤ j ∧ j ≤ 8 := by
  intro j e
  by_cases h1 : (n : Int) < 8
  · rw [if_pos h1] at e
    by_cases h2 : (n : Int) > 1
    · rw [if_pos h2] at e
      omega
    · rw [if_neg h2] at e
      omega
  · rw [if_neg h1] at e
    rw [if_pos (by decide)] at e
    omega
theorem mem_strs {m : List Str} {x : V} (h : x ∈ m.map V.str) : ∃ y ∈ m, x = .str y := by
  obtain ⟨y, h1, h2⟩ := List.mem_map.mp h
  exact ⟨y, h1, h2.symm⟩
theorem dp_signs {K : PySem.W.Frag} {H : Hp} : ∀ l : List Nat, DpAll K H (l.map fun c => V.str ⟨#[c]⟩) (l.map fun c => PyData.str ⟨#[c]⟩)
  | [] => .nil
  | _ :: l => .cons (.str _) (dp_signs l)
theorem dp_bls {K : PySem.W.Frag} {H : Hp} : ∀ l : List Bool, DpAll K H (l.map V.bl) (l.map PyData.bool)
  | [] => .nil
  | _ :: l => .cons (.bl _) (dp_bls l)
theorem take_next {α : Type} {l : List α} {i : Nat} {x : α} (h : l[i]? = some x) : l.take (i + 1) = l.take i ++ [x] := by
  rw [List.take_add_one, h]
  rfl
theorem lt_of_get {α : Type} {l : List α} {i : Nat} {x : α} (h : l[i]? = some x) : i < l.length := (List.getElem?_eq_some_iff.mp h).1
theorem lex1 (a b : Nat) : decide ([a] < [b]) = decide (a < b) := by
  by_cases h : a < b
  · rw [decide_eq_true h]
    exact decide_eq_true (List.Lex.rel h)
  · rw [decide_eq_false h]
    refine decide_eq_false fun z => ?_
    cases z with
    | rel h' => exact h h'
    | cons h' => cases h'
/-! ### the law's call -/
section
variable {P : Program} {w : World} {K : PySem.W.Frag} {mg mb : Str → Option Value} {CX : CXT} {k : Nat} {fa a : Addr} {fd : FuncData} {x : Str} {sp : Sp} {t : Shared} {items : List Value} {ns : List Int}
/-- the law's call at an abstract heap that knows nothing but, perhaps, the script -/
theorem call_from (inK : K.In t.heap) (glob : t.heap.Ns mainGlobals mg) (blt : t.heap.Ns builtinsNs mb) (bltBoot : ∀ x : Str, x ≠ "__name__" → mb x = bootBuiltins x) (noLim : t.heap.NoLimit) (noGens : t.gens = #[])
    (script : t.heap.get? a = some { cls := .type "list", data := .seq items.toArray }) (room : Room k callerA)
    (F : ∀ base : Heap, K.In base → base.Ns mainGlobals mg → FnOkG P w K mg base CX k fa fd [x] sp) (binds : ∀ (s : Shared) (u : Value), BindsTo s fd ⟨[u], []⟩ [(x, u)])
    (none' : ∀ H e s', CX [] H t (fun _ _ _ => False) e s' → False)
    (H : Hp) (only : Only H) (fine : HOk P w H t.heap) (atA : ∀ b, H b ≠ none → b = a ∧ K.lookup a = none) (wish : sp [.ref a] H (fun v _ => v = .bl true) fun _ _ _ => False) :
    codeAny (model P w) callerA (.call (.ref fa) ⟨[.ref a], []⟩) (fun r s' => r = .ok (.ret (.bool true)) ∧ OldK t.heap s'.heap ∧ s'.os = t.os ∧ AllBare s'.gens) t := by
  -- what is no list stays in sight when the script is hidden
  have free : ∀ {b : Addr} {o : Obj}, t.heap.get? b = some o → (b = a → K.lookup a ≠ none ∨ ∃ es ep, o.data = .dict es ep) → H b = none := by
    intro b o e h
    by_cases q : H b = none
    · exact q
    · obtain ⟨rfl, kn⟩ := atA b q
      rcases h rfl with h | ⟨es, ep, h⟩
      · exact absurd kn h
      · rw [script] at e
        cases e
        cases h
  have names : ∀ {b : Addr} {m : Str → Option Value}, t.heap.Ns b m → (hidT t.heap H).Ns b m := by
    rintro b m ⟨o, es, ep, e, d, r⟩
    exact ⟨o, es, ep, hidT_get e (free e fun _ => .inr ⟨es, ep, d⟩), d, r⟩
  have inB : K.In (hidT t.heap H) := fun b o e => hidT_get (inK b o e) (free (inK b o e) fun q => .inl (by
    subst q
    rw [e]
    exact fun z => nomatch z))
  have module : Mod K mg (hidT t.heap H) := by
    obtain ⟨mc, l1, l2⟩ := noLim
    exact ⟨inB, names glob, ⟨mb, names blt, bltBoot⟩, ⟨mc, names l1, l2⟩⟩
  have ground : Env0 P w K mg (hidT t.heap H) callerA [] t H := by
    refine ⟨rfl, module, fun b o e => of_hidT e, ?_, trivial, ?_, fine, .of_eq noGens⟩
    · exact Nat.le_of_eq (hidT_size t.heap H)
    · intro b hb
      cases hb
  have ran := (F _ inB (names glob)).go callerA [] t H ⟨[.ref a], []⟩ [.ref a] [.ref a] (fun v _ => v = .bl true) (fun _ _ _ => False) room rfl ground (binds t (.ref a)) (.cons rfl .nil) wish
  refine codeAny_mono ran ?_
  intro r s' h
  match r, h with
  | .error e, h => exact (none' H e s' h).elim
  | .ok .next, h => exact False.elim h
  | .ok .brk, h => exact False.elim h
  | .ok .cont, h => exact False.elim h
  | .ok (.ret u), h =>
    obtain ⟨v, H', os, bare, un, fine', rel, rfl⟩ := h
    cases (show u = Value.bool true from rel)
    refine ⟨rfl, OldK.of_keep ?_, os, bare⟩
    intro b o e
    cases q : H b with
    | none => exact un.keep b o e q (fun z => nomatch z) (fun z => nomatch z)
    | some u =>
      rcases only b with z | ⟨ob, xs, z⟩
      · exact absurd (z.symm.trans q) (fun y => nomatch y)
      · have before := (fine b _ z).1
        have behind := (fine' b _ (un.frzs b ob _ z)).1
        rw [e] at before
        cases before
        exact behind
theorem law_callG (inK : K.In t.heap) (glob : t.heap.Ns mainGlobals mg) (blt : t.heap.Ns builtinsNs mb) (bltBoot : ∀ x : Str, x ≠ "__name__" → mb x = bootBuiltins x) (noLim : t.heap.NoLimit) (noGens : t.gens = #[])
    (script : t.heap.get? a = some { cls := .type "list", data := .seq items.toArray }) (areInts : IntsAre items ns) (short : ns.length ≤ sizeLine) (room : Room k callerA)
    (F : ∀ base : Heap, K.In base → base.Ns mainGlobals mg → FnOkG P w K mg base CX k fa fd [x] sp) (binds : ∀ (s : Shared) (u : Value), BindsTo s fd ⟨[u], []⟩ [(x, u)])
    (none' : ∀ H e s', CX [] H t (fun _ _ _ => False) e s' → False) (wish : ∀ H : Hp, Only H → SqL K H a (ns.map V.int) → sp [.ref a] H (fun v _ => v = .bl true) fun _ _ _ => False) :
    codeAny (model P w) callerA (.call (.ref fa) ⟨[.ref a], []⟩) (fun r s' => r = .ok (.ret (.bool true)) ∧ OldK t.heap s'.heap ∧ s'.os = t.os ∧ AllBare s'.gens) t := by
  have vals := vals_ints areInts
  cases kn : K.lookup a with
  | some o =>
    have o' := inK a o kn
    rw [script] at o'
    cases o'
    have o1 : Only fun _ => none := fun _ => .inl rfl
    refine call_from inK glob blt bltBoot noLim noGens script room F binds none' (fun _ => none) o1 (fun _ _ z => nomatch z) (fun _ z => absurd rfl z) (wish _ o1 (.inr ⟨_, items.toArray, _, kn, rfl, rfl, rfl, ?_, by simpa using vals⟩))
    rw [List.size_toArray, areInts.length]
    exact short
  | none =>
    let H : Hp := fun b => if b = a then some (.frz { cls := .type "list", data := .seq items.toArray } (.lst (ns.map V.int))) else none
    have here : H a = some (.frz { cls := .type "list", data := .seq items.toArray } (.lst (ns.map V.int))) := if_pos rfl
    have there : ∀ b, b ≠ a → H b = none := fun b hb => if_neg hb
    have o1 : Only H := fun b => if hb : b = a then .inr ⟨_, _, hb ▸ here⟩ else .inl (there b hb)
    refine call_from inK glob blt bltBoot noLim noGens script room F binds none' H o1 (fun b u z => ?_) (fun b z => ?_) (wish _ o1 (.inl (.inr ⟨_, here⟩)))
    · by_cases hb : b = a
      · subst hb
        rw [here] at z
        cases z
        exact ⟨script, by rw [List.length_map]; exact short, items, _, vals, script⟩
      · rw [there b hb] at z
        cases z
    · by_cases hb : b = a
      · exact ⟨hb, kn⟩
      · exact absurd (there b hb) z
end
theorem walk_ofG {l : PySem.W.OpenLaw} {k : Nat} {q : Program} {loose : List Str} {XP : (Str → Option Value) → Heap → Prop} {YP : World → Heap → Prop} {d : DefRec} {K : Params → PySem.W.Frag} {sp : PySem.W.Frag → Sp} {x : Str}
    (most : l.most = some 63) (plain : d.params.defaults = []) (room : Room k callerA) (hY : ∀ (w : World) (h : Heap), YP w h → (K w.params).In h)
    (F : ∀ (w : World) (mg : Str → Option Value) (fa : Addr) (h : Heap), (K w.params).In h → h.Ns mainGlobals mg → mg d.name = some (.ref fa) →
      ∃ fd : FuncData, (∀ (s : Shared) (u : Value), BindsTo s fd ⟨[u], []⟩ [(x, u)]) ∧ ∀ base : Heap, (K w.params).In base → base.Ns mainGlobals mg → FnOkG l.prog w (K w.params) mg base CX0 k fa fd [x] (sp (K w.params)))
    (wish : ∀ (K : PySem.W.Frag) (H : Hp) (a : Addr) (ns : List Int), ns.length ≤ 63 → SqL K H a (ns.map V.int) → sp K [.ref a] H (fun v _ => v = .bl true) fun _ _ _ => False) :
    PySem.W.WalkO q loose XP YP l.row.toRowW d [] (fun f vs => PySem.call f vs) := by
  refine Att.attach_call most plain ?_
  intro w s₀ s₁ mg mb fa o pm cd doc a vs ns G Y _ _ _ named script areInts len gens
  have inK := hY w _ Y
  obtain ⟨fd, binds, ok⟩ := F w mg fa _ inK G.T.g named
  exact law_callG inK G.T.g G.T.b G.T.builtins G.T.nolimit gens script areInts (Nat.le_trans len (by decide)) room ok binds (fun _ _ _ z => z) fun H _ hS => wish _ H a ns len hS
/-! ### repr of data -/
section
variable {X : Cx}
theorem call_repr_data (hG : X.A.guards = some []) (hu : X.A.units + 64 < cLine) : CallR X (.builtin "repr") (fun xs H Q => ∃ (p : Addr) (d : PyData), xs = [.ref p] ∧ Dp X.K H (.ref p) d ∧ d.showable = true ∧ d.hasDict = false ∧ d.depth ≤ 20 ∧ d.shown.length ≤ sizeLine ∧ Q (.str d.shown) H) := by
  intro pins s σ H xs us Q I r h
  obtain ⟨p, d, rfl, hd, h1, h2, h3, h4, q⟩ := h
  obtain ⟨u, rfl, r1⟩ := vals1 r
  cases r1
  obtain ⟨as, rd⟩ := Dp.reads I d (.ref p) (.ref p) hd rfl
  exact repr_of_reads' (h₀ := s.heap) rd h1 (fun z => by rw [h2] at z; cases z) hG (by omega) (fun _ _ e => e) (fun h' u tk k => ⟨.str d.shown, H, I.kept k, ⟨u, rfl⟩, q⟩) h4
end
/-! ### cuts: what is known behind a statement -/
theorem cut_set {te : TE} {i : Nat} {u : TS} {D : Ends} {σ : L2.St} {H : Hp} (PV : V → Hp → Prop) (h : ∀ Q : VK, (∀ v H', PV v H' → Q v H') → te σ H Q) (k : ∀ v H', PV v H' → u D (σ.set i (some v)) H') : tSeq (tAsg te (gName i)) u D σ H := h _ k
theorem cut_for {wi : TI} {g : TG} {tb u : TS} {D : Ends} {σ : L2.St} {H : Hp} (PS' : L2.St → Hp → Prop) (h : ∀ N : L2.St → Hp → Prop, (∀ σ' H', PS' σ' H' → N σ' H') → tFor wi g tb { D with nx := N } σ H) (k : ∀ σ' H', PS' σ' H' → u D σ' H') : tSeq (tFor wi g tb) u D σ H := h _ k
theorem cut_it {K : PySem.W.Frag} {te : TE} {g : TG} {tb : TS} {D : Ends} {σ : L2.St} {H : Hp} (PV : V → Hp → Prop) (h : ∀ Q : VK, (∀ v H', PV v H' → Q v H') → te σ H Q) (k : ∀ v H', PV v H' → tFor (iList K (fun _ H1 Q => Q v H1)) g tb D σ H') : tFor (iList K te) g tb D σ H := h _ k
section
variable {X : Cx}
theorem pe_lc2D {elt tg iter tg1 iter1 : Expr} {ifs ifs1 : List Expr} {scope : Scope} {own : List (Str × Nat)} {vs1 : List Nat} {pos : Pos} {wi : TI} {wi1 : Dep TI} {g g1 : Dep TG} {tt tt1 : Dep TT} {te : Dep TE} (hc : X.calm = true) (hN : X.N.Nodup) (hi : PI X tg iter wi) (ok : BlkOk X.N X.env.scope scope own) (hv : ∀ i ∈ vs1, i ∈ own.map (·.2))
    (hg : ∀ (s : Shared) (H : Hp) (C : Addr) (cl : List (Str × Addr)) (fp : List Addr), PG (X.blk s H scope (compEnvC scope cl C X.env) fp) tg (g s H C cl fp)) (ht : ∀ (s : Shared) (H : Hp) (C : Addr) (cl : List (Str × Addr)) (fp : List Addr), PTs (X.blk s H scope (compEnvC scope cl C X.env) fp) ifs (tt s H C cl fp))
    (hi1 : ∀ (s : Shared) (H : Hp) (C : Addr) (cl : List (Str × Addr)) (fp : List Addr), PI (X.blk s H scope (compEnvC scope cl C X.env) fp) tg1 iter1 (wi1 s H C cl fp))
    (hg1 : ∀ (s : Shared) (H : Hp) (C : Addr) (cl : List (Str × Addr)) (fp : List Addr), PG (X.blk s H scope (compEnvC scope cl C X.env) fp) tg1 (g1 s H C cl fp)) (ht1 : ∀ (s : Shared) (H : Hp) (C : Addr) (cl : List (Str × Addr)) (fp : List Addr), PTs (X.blk s H scope (compEnvC scope cl C X.env) fp) ifs1 (tt1 s H C cl fp))
    (he : ∀ (s : Shared) (H : Hp) (C : Addr) (cl : List (Str × Addr)) (fp : List Addr), PE (X.blk s H scope (compEnvC scope cl C X.env) fp) elt (te s H C cl fp)) (hs : ∀ x, foldedSetIterable iter X.env x = pure x := by intro _; rfl) (hs1 : ∀ env x, foldedSetIterable iter1 env x = pure x := by intro _ _; rfl)
    (eg : ∀ s H C cl fp, g s H C cl fp = g.at X := by intros; rfl) (et : ∀ s H C cl fp, tt s H C cl fp = tt.at X := by intros; rfl) (ei : ∀ s H C cl fp, wi1 s H C cl fp = wi1.at X := by intros; rfl) (eg1 : ∀ s H C cl fp, g1 s H C cl fp = g1.at X := by intros; rfl) (et1 : ∀ s H C cl fp, tt1 s H C cl fp = tt1.at X := by intros; rfl)
    (ee : ∀ s H C cl fp, te s H C cl fp = te.at X := by intros; rfl) :
    PE X (.ListComp elt [⟨tg, iter, ifs, 0⟩, ⟨tg1, iter1, ifs1, 0⟩] scope pos) (tLc2 wi (g.at X) (tt.at X) (wi1.at X) (g1.at X) (tt1.at X) (te.at X) (own.map (·.2)) vs1) :=
  pe_lc2 hc hN hi ok hv (fun s H C cl fp => eg s H C cl fp ▸ hg s H C cl fp) (fun s H C cl fp => et s H C cl fp ▸ ht s H C cl fp) (fun s H C cl fp => ei s H C cl fp ▸ hi1 s H C cl fp) (fun s H C cl fp => eg1 s H C cl fp ▸ hg1 s H C cl fp) (fun s H C cl fp => et1 s H C cl fp ▸ ht1 s H C cl fp)
    (fun s H C cl fp => ee s H C cl fp ▸ he s H C cl fp) hs hs1
end
/-! ### a walk over a tuple, a list, whatever is done in a turn -/
theorem walk_tup {K : PySem.W.Frag} {a : Addr} {xs : List V} {B : V → Hp → (Hp → Prop) → Prop} {H1 : Hp} {Qd : Hp → Prop} (Pv : Nat → Hp → Prop) (h0 : Pv 0 H1) (hl : ∀ i H, i ≤ xs.length → Pv i H → SqT K H a xs)
    (hs : ∀ i x H, xs[i]? = some x → Pv i H → B x H (Pv (i + 1))) (hd : ∀ H, Pv xs.length H → Qd H) :
    ∃ W : Nat → Nat → Hp → Prop, (∃ m, W 0 m H1) ∧ ∀ i m H, W i m H →
      ((Itt K a).stop i H ∧ Qd H) ∨ ((Itt K a).go i H ∧ ∃ Nx : Hp → Prop, (∀ H', Nx H' → ∃ m', m' < m ∧ W (i + 1) m' H') ∧ ∀ x H', (Itt K a).yld i H x H' → B x H' Nx) := by
  refine ⟨fun i m H => (m = xs.length - i ∧ i ≤ xs.length) ∧ Pv i H, ⟨xs.length, ⟨by omega, Nat.zero_le _⟩, h0⟩, ?_⟩
  rintro i m H ⟨⟨rfl, le⟩, p⟩
  have there := hl i H le p
  rcases Nat.lt_or_ge i xs.length with lt | ge
  · have item : xs[i]? = some xs[i] := List.getElem?_eq_getElem lt
    refine .inr ⟨⟨xs, xs[i], there, item⟩, Pv (i + 1), ?_, ?_⟩
    · exact fun H' p' => ⟨xs.length - (i + 1), by omega, ⟨rfl, lt⟩, p'⟩
    · rintro x H' ⟨rfl, y⟩
      exact hs i x _ (y xs there) p
  · have e : i = xs.length := by omega
    subst e
    refine .inl ⟨?_, hd H p⟩
    exact ⟨xs, there, Nat.le_refl _⟩


end My
namespace My
open PySem PySem.Spec PyProof.Rows L2 TL
/-! ### operators of an own class, by the promises of its methods -/
section
variable {X : Cx}
/-- the def at f, called with such values, keeps sp; E is what is wished if it raises -/
def Runs (X : Cx) (f : Addr) (sp : Sp) (E : XK) : Prop := ∀ (pins : List (Addr × Obj)) (σ : L2.St) (H : Hp) (s : Shared) (Q : VK) (us : List Value) (vs : List V), Inv X pins σ H s → Vals vs us → sp vs H Q E →
  wpAny (model X.prog X.w) X.A (call (.ref f) us) (EP X pins σ Q) X.xe s
/-- the same one built-in deeper -/
def Runs1 (X : Cx) (f : Addr) (sp : Sp) (E : XK) : Prop := ∀ (pins : List (Addr × Obj)) (σ : L2.St) (H : Hp) (s : Shared) (Q : VK) (us : List Value) (vs : List V), Inv X pins σ H s → Vals vs us → sp vs H Q E →
  wpAny (model X.prog X.w) X.A.in1 (call (.ref f) us) (EP X pins σ Q) X.xe s
variable {k : Nat} {f : Addr} {fd : FuncData} {ps : List Str} {sp : Sp} {E : XK} {CX : CXT} {C : Addr}
theorem Runs.ofG (F : FnOkG X.prog X.w X.K X.mg X.base CX k f fd ps sp) (room : Room k X.A) (still : X.A.guards = some []) (binds : Binds X.K fd ps []) (pass : Passes CX X E) : Runs X f sp E :=
  fun pins σ H s Q us vs I r h => run_fnG (dvs := []) F room still binds .nil pass I r (by rw [List.append_nil]; exact h)
theorem Runs.of (F : FnOk X.prog X.w X.K X.mg X.base CX k f fd ps sp) (room : Room k X.A) (binds : Binds X.K fd ps []) (pass : Passes CX X E) : Runs X f sp E :=
  fun pins σ H s Q us vs I r h => run_fn (dvs := []) F room binds .nil pass I r (by rw [List.append_nil]; exact h)
theorem Runs1.of (F : FnOk X.prog X.w X.K X.mg X.base CX k f fd ps sp) (room : Room (k + 1) X.A) (binds : Binds X.K fd ps []) (pass : Passes CX X E) : Runs1 X f sp E := by
  intro pins σ H s Q us vs I r h
  have len : (us ++ []).length = ps.length := by rw [List.append_nil, ← r.length]; exact F.len _ _ _ _ h
  have ran := F.run X.A.in1 X.stack s H ⟨us, []⟩ (us ++ []) vs Q E room.in1 I.env0.in1 (binds s us I.kIn len) (by rw [List.append_nil]; exact r) h
  refine wpAny_call (codeAny_mono ran ?_)
  intro r s' h
  match r, h with
  | .error e, h => exact pass pins σ H s e s' I h
  | .ok (.ret u), h => exact I.after h
  | .ok .next, h => exact False.elim h
  | .ok .brk, h => exact False.elim h
  | .ok .cont, h => exact False.elim h
theorem ep_back {pins : List (Addr × Obj)} {σ : L2.St} {Q : VK} {u : Value} {s' : Shared} (h : EP X pins σ Q u s') : PySem.W.CmpBack (EP X pins σ Q) u s' := by
  obtain ⟨v, H', I, r, q⟩ := h
  have no : u ≠ .notImplemented := fun z => by
    subst z
    cases v <;> first | (obtain ⟨_, z⟩ := r; exact nomatch z) | exact nomatch (show Value.notImplemented = _ from r)
  cases u <;> first | exact ⟨v, H', I, r, q⟩ | exact absurd rfl no
/-- an instance, as the library sees it -/
theorem inst_at {pins : List (Addr × Obj)} {σ : L2.St} {H : Hp} {s : Shared} {a dx : Addr} {fs : List (Str × V)} (I : Inv X pins σ H s) (h : H a = some (.ins C dx fs)) : ∃ od, PySem.W.InstAt s.heap a (PySem.W.instObj C dx) C (some od) := by
  obtain ⟨mA, O, _⟩ := ins_get I.hok h
  obtain ⟨od, J, _⟩ := O.look
  exact ⟨od, J⟩
/-- x op y, both of the class -/
def rOwn (C : Addr) (sp : Sp) (E : XK) : R2 := fun x y H Q => ∃ a dx fs b dx2 fs2, x = .ref a ∧ y = .ref b ∧ H a = some (.ins C dx fs) ∧ H b = some (.ins C dx2 fs2) ∧ sp [x, y] H Q E
theorem op_own {op : Operator} (R : Runs X f sp E) (first : PySem.W.selfFirst X.K C = true) (there : PySem.W.findIn X.K (.ref C) (PySem.dunder op.info.2) = some (some (.ref f))) (fn : PySem.W.isFn X.K (.ref f) = true) : OpR X (binaryOp op) (rOwn C sp E) := by
  intro pins s σ H x y u v Q I rx ry h
  obtain ⟨a, dx, fs, b, dx2, fs2, rfl, rfl, ha, hb, q⟩ := h
  cases rx
  cases ry
  obtain ⟨od, J⟩ := inst_at I ha
  obtain ⟨od2, J2⟩ := inst_at I hb
  obtain ⟨m, fr⟩ := I.fr
  refine PySem.W.binop_K fr I.ok.mod.kin J J2.type first there fn ?_
  exact wpAny_mono (R pins σ H s Q [.ref a, .ref b] [.ref a, .ref b] I (.cons rfl (.cons rfl .nil)) q) (fun _ _ z => ep_back z) fun _ _ z => z
theorem op_ownEq (R : Runs X f sp E) (room : X.A.units < cLine) (first : PySem.W.notFirst X.K C (.ref C) = true) (there : PySem.W.findIn X.K (.ref C) "__eq__" = some (some (.ref f))) (fn : PySem.W.isFn X.K (.ref f) = true) : OpR X (compareOp .Eq) (rOwn C sp E) := by
  intro pins s σ H x y u v Q I rx ry h
  obtain ⟨a, dx, fs, b, dx2, fs2, rfl, rfl, ha, hb, q⟩ := h
  cases rx
  cases ry
  obtain ⟨od, J⟩ := inst_at I ha
  obtain ⟨od2, J2⟩ := inst_at I hb
  obtain ⟨m, fr⟩ := I.fr
  refine PySem.W.cmp_K (op := .Eq) room fr I.ok.mod.kin J J2.type first there fn ?_
  exact wpAny_mono (R pins σ H s Q [.ref a, .ref b] [.ref a, .ref b] I (.cons rfl (.cons rfl .nil)) q) (fun _ _ z => ep_back z) fun _ _ z => z
/-- x != y where the class has __eq__ alone -/
def rOwnNe (C : Addr) (sp : Sp) (E : XK) : R2 := fun x y H Q => ∃ a dx fs b dx2 fs2, x = .ref a ∧ y = .ref b ∧ H a = some (.ins C dx fs) ∧ H b = some (.ins C dx2 fs2) ∧ sp [x, y] H (fun v H' => ∃ c, v = .bl c ∧ Q (.bl (!c)) H') E
theorem op_ownNe (R : Runs1 X f sp E) (room : X.A.units + 1 < cLine) (first : PySem.W.notFirst X.K C (.ref C) = true) (ne : PySem.W.findIn X.K (.ref C) "__ne__" = some (some (.builtin "object.__ne__"))) (under : PySem.W.subIn X.K (.ref C) (.type "object") = some true)
    (there : PySem.W.findIn X.K (.ref C) "__eq__" = some (some (.ref f))) (fn : PySem.W.isFn X.K (.ref f) = true) : OpR X (compareOp .NotEq) (rOwnNe C sp E) := by
  intro pins s σ H x y u v Q I rx ry h
  obtain ⟨a, dx, fs, b, dx2, fs2, rfl, rfl, ha, hb, q⟩ := h
  cases rx
  cases ry
  obtain ⟨od, J⟩ := inst_at I ha
  obtain ⟨od2, J2⟩ := inst_at I hb
  have K' := I.kIn
  have sub : PySem.W.Looks (model X.prog X.w) s.heap (isInstance (.ref a) (.type "object")) true := J.type.andThen (PySem.W.looks_subIn K' under)
  -- object.__ne__ asks __eq__ and turns the answer round
  have body : wpAny (model X.prog X.w) X.A (tryCompare (.ref a) "__ne__" (.ref b)) (fun r s' => ∃ w, r = some w ∧ EP X pins σ Q w s') X.xe s := by
    unfold tryCompare
    refine wpAny_bind ?_
    simp only [callSpecialIfBound?, bindSpecialIfBound?]
    refine wpAny_holding (wpAny_bind (wpAny_bind (wpAny_bind (J.type.here ((PySem.W.looks_findIn K' ne).here ?_)))))
    simp only [PySem.F.cmp_object.ne.bind]
    have fin : wpAny (model X.prog X.w) X.A (call (.builtin "object.__ne__") [.ref a, .ref b]) (fun w s' => EP X pins σ Q w s' ∧ w ≠ .notImplemented) X.xe s := by
      refine wpAny_call (codeAny_call_builtin PySem.F.cmp_object.ne.plain PySem.F.cmpEntry_ne (@PySem.W.check_slot (model X.prog X.w) _ _ s "object.__ne__" "object" "__ne__" (.ref a) [.ref b] [] _ PySem.F.cmpKind_ne PySem.F.cmpSplit_ne sub (PySem.F.cmpArgs_ne _ _) ?_))
      unfold Builtin.«object.__ne__»
      refine wpAny_bind (m := slotArgs "__ne__" 1 _) (wpAny_pure ?_)
      refine wpAny_bind (wpAny_cRoomFor (by show X.A.units + 1 < cLine; exact room) (wpAny_bind ?_))
      refine PySem.W.ifBound_K K' J there fn (wpAny_mono (R pins σ H s _ [.ref a, .ref b] [.ref a, .ref b] I (.cons rfl (.cons rfl .nil)) q) (fun w s' z => ?_) fun _ _ z => z)
      obtain ⟨v, H', I', r, c, rfl, q'⟩ := z
      cases r
      refine wpAny_bind (wpAny_truthy_bool ?_)
      exact wpAny_pure ⟨⟨.bl (!c), H', I', rfl, q'⟩, fun z => nomatch z⟩
    refine wpAny_bind (wpAny_askSetting (wpAny_ite ?_))
    split
    · refine wpAny_bind (wpAny_pure (wpAny_pure (wpAny_bind (wpAny_mono fin (fun w s' z => wpAny_pure ?_) fun _ _ z => z))))
      obtain ⟨z, no⟩ := z
      cases w <;> first | exact absurd rfl no | exact wpAny_pure ⟨_, rfl, z⟩
    · refine wpAny_tryCatch (wpAny_bind (wpAny_pure (wpAny_pure (wpAny_bind (wpAny_mono fin (fun w s' z => wpAny_pure ?_) fun _ _ z => z)))))
      obtain ⟨z, no⟩ := z
      cases w <;> first | exact absurd rfl no | exact wpAny_pure ⟨_, rfl, z⟩
  show wpAny (model X.prog X.w) X.A (richCompare .NotEq (.ref a) (.ref b)) _ _ _
  unfold richCompare
  simp only [oneThing_ref]
  refine wpAny_holding (wpAny_bind (wpAny_cRoomFor (by omega) ?_))
  refine wpAny_bind (J.type.here (wpAny_bind (J2.type.here ?_)))
  simp only [bne_self_eq_false, Bool.false_eq_true, if_false]
  refine wpAny_bind (wpAny_pure ?_)
  refine wpAny_bind (wpAny_mono body (fun r s' z => ?_) fun _ _ z => z)
  obtain ⟨w, rfl, z⟩ := z
  exact wpAny_pure z
end
/-! ### defs, methods, properties, makers that look at no guard, by their promises -/
structure CalN (P : Program) (w : World) (K : PySem.W.Frag) (mg : Str → Option Value) (base : Heap) (x : Str) (k : Nat) (ps : List Str) (sp : Sp) : Prop where
  ex : ∃ f fd, FnOk P w K mg base CX0 k f fd ps sp ∧ mg x = some (.ref f) ∧ PySem.W.keepIn K (.ref f) = true ∧ Binds K fd ps []
theorem CalN.of {P : Program} {w : World} {K : PySem.W.Frag} {mg : Str → Option Value} {base : Heap} {x q : Str} {k : Nat} {ps : List Str} {sp : Sp} {st : Stmt} {f : Addr} {fd : FuncData}
    (F : Fun K x q st f fd) (hm : mg x = some (.ref f)) (hb : Binds K fd ps []) (ok : FnOk P w K mg base CX0 k f fd ps sp) : CalN P w K mg base x k ps sp := ⟨f, fd, ok, hm, F.kp, hb⟩
theorem CalN.lift {P : Program} {w : World} {K : PySem.W.Frag} {mg : Str → Option Value} {base : Heap} {x : Str} {k : Nat} {ps : List Str} {sp : Sp} (c : CalN P w K mg base x k ps sp) : Cal P w K mg base x k ps sp := by
  obtain ⟨f, fd, ok, hm, kp, hb⟩ := c.ex
  exact ⟨f, fd, .lift ok, hm, kp, hb⟩
structure MetC (P : Program) (w : World) (K : PySem.W.Frag) (mg : Str → Option Value) (base : Heap) (C : Addr) (m : Str) (k : Nat) (ps : List Str) (sp : Sp) : Prop where
  ex : ∃ f fd, FnOk P w K mg base CX0 k f fd ps sp ∧ Meth K C m f ∧ Binds K fd ps []
structure PrpC (P : Program) (w : World) (K : PySem.W.Frag) (mg : Str → Option Value) (base : Heap) (C : Addr) (m : Str) (k : Nat) (ps : List Str) (sp : Sp) : Prop where
  ex : ∃ p g fd, FnOk P w K mg base CX0 k g fd ps sp ∧ PropOf K C m p g ∧ Binds K fd ps []
structure MakC (P : Program) (w : World) (K : PySem.W.Frag) (mg : Str → Option Value) (base : Heap) (C : Addr) (k : Nat) (ps : List Str) (sp : Sp) : Prop where
  ex : ∃ f fd, FnOk P w K mg base CX0 k f fd ps sp ∧ Mk K C f ∧ Binds K fd ps []
section
variable {X : Cx} {x m : Str} {k : Nat} {ps : List Str} {sp : Sp} {e o : Expr} {es : List Expr} {ta : TE} {t : TA} {p pos apos : Pos} {C : Addr}
theorem pe_callN (c : CalN X.prog X.w X.K X.mg X.base x k ps sp) (room : Room k X.A) (hg : Gl X x) (ha : PA X (e :: es) t) (hdb : (x == ("__debug__" : Str)) = false := by decide)
    (he : starEach (e :: es) X.env = (false, eval e X.env) :: starEach es X.env := by rfl) (hpl : (backTo pos (starEach es X.env)).any (·.1) = false := by rfl) :
    PE X (.Call (.Name x p) (e :: es) [] pos) (tCall sp [] E0 t) := by
  obtain ⟨f, fd, ok, hm, kp, hb⟩ := c.ex
  exact pe_call ok room hg hm kp hb .nil pass0 ha hdb he hpl
theorem pe_methC {pl : Sem Bool} (c : MetC X.prog X.w X.K X.mg X.base C m k ps sp) (cls : Cls X.K C) (room : Room k X.A) (ho : PE X o ta) (ha : PA X (e :: es) t)
    (hst : starEach (e :: es) X.env = (false, eval e X.env) :: starEach es X.env := by rfl) (hpl : (backTo pos (starEach es X.env)).any (·.1) = false := by rfl)
    (ht : eval (.Call (.Attribute o m apos) (e :: es) [] pos) X.env = (do
      let ov ← eval o X.env
      standAt apos.atName
      let (f, first) ← holding [ov] (getMethod ov m pl)
      callWith pos f first (backTo pos (starEach (e :: es) X.env)) (backToKw pos (keywordEach [] X.env))) := by rfl) :
    PE X (.Call (.Attribute o m apos) (e :: es) [] pos) (tMeth C m sp [] E0 ta t) := by
  obtain ⟨f, fd, ok, hm, hb⟩ := c.ex
  exact pe_meth ho cls hm ok room hb .nil pass0 ha hst hpl ht
theorem pe_propC (c : PrpC X.prog X.w X.K X.mg X.base C m k ps sp) (cls : Cls X.K C) (room : Room (k + 1) X.A) (he : PE X e ta) (hab : attributeBase e m X.env (eval e X.env) = eval e X.env := by rfl) :
    PE X (.Attribute e m pos) (tProp C sp [] E0 ta) := by
  obtain ⟨q, g, fd, ok, hp, hb⟩ := c.ex
  exact pe_prop he cls hp ok room hb .nil pass0 hab
theorem pe_makeC (c : MakC X.prog X.w X.K X.mg X.base C k ps sp) (room : Room (k + 1) X.A) (hg : Gl X x) (hm : X.mg x = some (.ref C)) (ha : PA X (e :: es) t) (hdb : (x == ("__debug__" : Str)) = false := by decide)
    (he : starEach (e :: es) X.env = (false, eval e X.env) :: starEach es X.env := by rfl) (hpl : (backTo pos (starEach es X.env)).any (·.1) = false := by rfl) :
    PE X (.Call (.Name x p) (e :: es) [] pos) (tMake C sp [] E0 t) := by
  obtain ⟨f, fd, ok, M, hb⟩ := c.ex
  exact pe_make M ok room hg hm hb .nil pass0 ha hdb he hpl
theorem op_ownC {op : Operator} (c : MetC X.prog X.w X.K X.mg X.base C m k ps sp) (room : Room k X.A) (first : PySem.W.selfFirst X.K C = true) (name : PySem.dunder op.info.2 = m := by rfl) : OpR X (binaryOp op) (rOwn C sp E0) := by
  obtain ⟨f, fd, ok, M, hb⟩ := c.ex
  exact op_own (Runs.of ok room hb pass0) first (name ▸ M.at_) M.fn
theorem op_eqC (c : MetC X.prog X.w X.K X.mg X.base C "__eq__" k ps sp) (room : Room k X.A) (first : PySem.W.notFirst X.K C (.ref C) = true) : OpR X (compareOp .Eq) (rOwn C sp E0) := by
  obtain ⟨f, fd, ok, M, hb⟩ := c.ex
  exact op_ownEq (Runs.of ok room hb pass0) room.units0 first M.at_ M.fn
theorem op_neC (c : MetC X.prog X.w X.K X.mg X.base C "__eq__" k ps sp) (room : Room (k + 1) X.A) (first : PySem.W.notFirst X.K C (.ref C) = true) (ne : PySem.W.findIn X.K (.ref C) "__ne__" = some (some (.builtin "object.__ne__")))
    (under : PySem.W.subIn X.K (.ref C) (.type "object") = some true) : OpR X (compareOp .NotEq) (rOwnNe C sp E0) := by
  obtain ⟨f, fd, ok, M, hb⟩ := c.ex
  exact op_ownNe (Runs1.of ok room hb pass0) (by have := room.units; omega) first ne under M.at_ M.fn
end
/-- a property that hands out a field -/
theorem _root_.L2.Fun.getter {P : Program} {w : World} {K : PySem.W.Frag} {mg : Str → Option Value} {base : Heap} {x qual g : Str} {st : Stmt} {f C : Addr} {fd : FuncData} {N : List Str} {p1 p2 p3 : Pos} (F : Fun K x qual st f fd)
    (S : FnScope N ["self"] (defScope st)) (c : Cls K C) (n : NoAttr K C g) (hN : N[0]? = some ("self" : Str) := by rfl) (body : defBody st = [.Return (some (.Attribute (.Name "self" p1) g p2)) p3] := by rfl) : FnOk P w K mg base CX0 1 f fd ["self"] (getSp C g) := by
  obtain ⟨oc, od, kV, doc, pm, an, cv, ct, osl, rfl, found, isCode⟩ := F.ex
  exact fn_getter found isCode S hN body c n
section
variable {X : Cx} {x : Str} {k : Nat} {ps : List Str} {sp : Sp} {e : Expr} {es : List Expr} {tf : TE} {t : TA} {p pos : Pos} {C : Addr}
/-- x(e, ..), x a name of the def that holds the class -/
def tMakeV (C : Addr) (sp : Sp) (tf : TE) (t : TA) : TE := fun σ H Q => tf σ H fun v H1 => v = .ref C ∧ tMake C sp [] E0 t σ H1 Q
theorem pe_makeV (c : MakC X.prog X.w X.K X.mg X.base C k ps sp) (room : Room (k + 1) X.A) (hf : PE X (.Name x p) tf) (ha : PA X (e :: es) t)
    (he : starEach (e :: es) X.env = (false, eval e X.env) :: starEach es X.env := by rfl) (hpl : (backTo pos (starEach es X.env)).any (·.1) = false := by rfl) :
    PE X (.Call (.Name x p) (e :: es) [] pos) (tMakeV C sp tf t) := by
  obtain ⟨f, fd, ok, M, hb⟩ := c.ex
  refine ⟨fun pins s σ H Q I h => wpAny_Call_Name_kw (thn (hf.run pins s σ H _ I h) fun g s0 got => ?_)⟩
  obtain ⟨v, H0, I0, r0, rfl, q0⟩ := got
  cases r0
  exact PySem.W.callWith_K (h₀ := X.base) I0.ok.mod.kin M.kp (thn (ha.run pos pins s0 σ H0 _ I0 q0) fun us s1 ⟨vs, H1, I1, r, q⟩ => ⟨I1.kIn, run_make M ok room hb .nil pass0 I1 r q⟩) he hpl
end

/-! ### max of a list of ints, with a default -/
section
variable {prog : Program} {w : World} {A : Around} {E : Value → Shared → Prop} {s : Shared}
theorem gt_pair {a b : Int} {t u : Tok} {Q : Value → Shared → Prop} (h : Q (.bool (decide (a > b))) s) : wpAny (model prog w) A (richCompare .Gt (.int a t) (.int b u)) Q E s := by
  refine CmpOf.ints_gt (P := fun i v => (i = 0 ∧ v = .int a t) ∨ (i = 1 ∧ v = .int b u)) (fun i => if i = 0 then a else b) ?_ 0 1 _ _ s Q E (.inl ⟨rfl, rfl⟩) (.inr ⟨rfl, rfl⟩) h
  rintro i v (⟨rfl, rfl⟩ | ⟨rfl, rfl⟩)
  · exact ⟨t, rfl⟩
  · exact ⟨u, rfl⟩
/-- the greatest of b and of f j, .., k of them -/
def topOf (f : Nat → Int) : Int → Nat → Nat → Int
  | b, _, 0 => b
  | b, j, k + 1 => topOf f (if f j > b then f j else b) (j + 1) k
theorem topOf_ge (f : Nat → Int) : ∀ (k j : Nat) (b : Int), b ≤ topOf f b j k ∧ ∀ i, i < k → f (j + i) ≤ topOf f b j k
  | 0, _, b => ⟨Int.le_refl _, fun i h => absurd h (Nat.not_lt_zero _)⟩
  | k + 1, j, b => by
    obtain ⟨h1, h2⟩ := topOf_ge f k (j + 1) (if f j > b then f j else b)
    have h0 : b ≤ (if f j > b then f j else b) ∧ f j ≤ (if f j > b then f j else b) := by
      by_cases h : f j > b
      · rw [if_pos h]
        omega
      · rw [if_neg h]
        omega
    refine ⟨Int.le_trans h0.1 h1, fun i hi => ?_⟩
    cases i with
    | zero => exact Int.le_trans h0.2 h1
    | succ i =>
      have := h2 i (by omega)
      rw [show j + 1 + i = j + (i + 1) by omega] at this
      exact this
theorem topOf_mem (f : Nat → Int) : ∀ (k j : Nat) (b : Int), topOf f b j k = b ∨ ∃ i, i < k ∧ topOf f b j k = f (j + i)
  | 0, _, _ => .inl rfl
  | k + 1, j, b => by
    show topOf f (if f j > b then f j else b) (j + 1) k = b ∨ _
    rcases topOf_mem f k (j + 1) (if f j > b then f j else b) with h | ⟨i, hi, h⟩
    · by_cases q : f j > b
      · rw [if_pos q] at h
        exact .inr ⟨0, Nat.succ_pos k, by show topOf f (if f j > b then f j else b) (j + 1) k = f j; rw [if_pos q]; exact h⟩
      · rw [if_neg q] at h
        exact .inl (by rw [if_neg q]; exact h)
    · exact .inr ⟨i + 1, Nat.succ_lt_succ hi, by show topOf f (if f j > b then f j else b) (j + 1) k = f (j + (i + 1)); rw [h]; congr 1; omega⟩
def listObj (vs : Array Value) (c : Nat) : Obj := { cls := .type "list", dict := none, data := .seq vs c, slots := #[] }
variable {R : Result → Shared → Prop} {I best : Addr} {fp wr : List Addr} {n : Nat} {P : Nat → Value → Prop} {St : Nat → Heap → Prop}
theorem max_name : (toString "max" ++ toString ".loop" : String) = "max.loop" := by decide
/-- behind the first item -/
theorem maxd_rest (W : Walks prog w A.in1 I fp wr n P St) (f : Nat → Int) (num : ∀ j v, P j v → ∃ t, v = .int (f j) t) (apart : best ∉ fp) (kw : List (Str × Value)) :
    ∀ (k j : Nat) (t : Shared) (b : Int) (u : Tok) (c : Nat), n = j + k → St j t.heap → t.heap.get? best = some (listObj #[.int b u, .int b u] c) →
      (∀ u' h' tk, (∀ a o, a ∉ wr → a ≠ best → t.heap.get? a = some o → h'.get? a = some o) → R (.ok (.ret (.int (topOf f b j k) u'))) { t with heap := h', toks := tk }) →
      codeAny (model prog w) A (.builtin "max.loop" ⟨[.ref I, .none, .ref best], kw⟩) R t
  | 0, j, t, b, u, c, e, st, there, fin => by
    have notWr : best ∉ wr := fun z => apart (W.sub _ z)
    refine codeAny_builtin PySem.F.entry_max_loop ?_
    rw [Around.under_plainId PySem.F.plain_max_loop _]
    show wpAny _ A.in1 (seqItems? (.ref best) >>= _) _ _ t
    refine wpAny_bind (wpAny_seqItems there
      rfl ?_)
    show wpAny _ A.in1 (tryCatch (pyNext (.ref I)) _ >>= _) _ _ t
    have st' : St n t.heap := by rw [e]; exact st
    refine wpAny_bind (wpAny_tryCatch (W.done t _ _ st' fun h1 tk1 old => ?_))
    have there1 := old best _ notWr there
    show wpAny _ A.in1 (updateSeq best (fun _ => #[]) >>= _) _ _ _
    refine wpAny_bind (wpAny_updateSeq there1 rfl (wpAny_bind
      (wpAny_letGo (wpAny_pure ?_))))
    exact fin u _ tk1 fun a o na nb q => (Heap.get?_update_other _ _ (Ne.symm nb)).trans (old a o na q)
  | k + 1, j, t, b, u, c, e, st, there, fin => by
    have notWr : best ∉ wr := fun z => apart (W.sub _ z)
    refine codeAny_builtin PySem.F.entry_max_loop ?_
    rw [Around.under_plainId PySem.F.plain_max_loop _]
    show wpAny _ A.in1 (seqItems? (.ref best) >>= _) _ _ t
    refine wpAny_bind (wpAny_seqItems there
      rfl ?_)
    show wpAny _ A.in1 (tryCatch (pyNext (.ref I)) _ >>= _) _ _ t
    refine wpAny_bind (wpAny_tryCatch (W.item j t _ _ (by omega) st fun v h1 tk1 pv st1 old => ?_))
    obtain ⟨tv, rfl⟩ := num j v pv
    have there1 := old best _ notWr there
    show wpAny _ A.in1 (tryCatch (holding [Value.int (f j) tv, Value.int (f j) tv] (richCompare .Gt (.int (f j) tv) (.int b u) >>= _)) _ >>= _) _ _ _
    refine wpAny_bind (wpAny_tryCatch (wpAny_holding (wpAny_bind (gt_pair ?_))))
    refine wpAny_bind (wpAny_holding (wpAny_truthy_bool ?_))
    refine wpAny_bind (wpAny_letGo (wpAny_pure ?_))
    by_cases gt : f j > b
    · have top : topOf f b j (k + 1) = topOf f (f j) (j + 1) k := by
        show topOf f (if f j > b then f j else b) (j + 1) k = _
        rw [if_pos gt]
      rw [decide_eq_true gt]
      simp only [if_true]
      refine wpAny_bind (wpAny_updateSeq there1 rfl (wpAny_bind
        (wpAny_letGo ?_)))
      rw [max_name]
      refine wpAny_pure ⟨plainId_quiet PySem.F.plain_max_loop _, maxd_rest W f num apart kw k (j + 1) _ (f j) tv _ (by omega) (W.frame _ _ _ st1 fun a na o q => ?_) (Heap.get?_update_self _ there1 rfl) fun u' h' tk later => ?_⟩
      · exact (Heap.get?_update_other _ _ (fun z : best = a => apart (by rw [z]; exact na))).trans q
      · rw [← top]
        exact fin u' h' tk fun a o na nb q => later a o na nb ((Heap.get?_update_other _ _ (Ne.symm nb)).trans (old a o na q))
    · have top : topOf f b j (k + 1) = topOf f b (j + 1) k := by
        show topOf f (if f j > b then f j else b) (j + 1) k = _
        rw [if_neg gt]
      rw [decide_eq_false gt]
      simp only [Bool.false_eq_true, if_false]
      refine wpAny_bind (wpAny_letGo ?_)
      rw [max_name]
      refine wpAny_pure ⟨plainId_quiet PySem.F.plain_max_loop _, maxd_rest W f num apart kw k (j + 1) _ b u c (by omega) st1 there1 fun u' h' tk later => ?_⟩
      rw [← top]
      exact fin u' h' tk fun a o na nb q => later a o na nb (old a o na q)
theorem args_maxd (a d : Value) : argsOk "max" ⟨[a], [("default", d)]⟩ := by
  unfold argsOk
  kernel_rfl
/-- the loop from its start -/
theorem maxd_loop (W : Walks prog w A.in1 I fp wr n P St) (f : Nat → Int) (num : ∀ j v, P j v → ∃ t, v = .int (f j) t) (apart : best ∉ fp) {z : Int} {tz : Tok} {kn : Str} (t : Shared) (c : Nat) (st : St 0 t.heap) (there : t.heap.get? best = some (listObj #[] c))
    (fin : ∀ m u h' tk, (∀ a o, a ∉ wr → a ≠ best → t.heap.get? a = some o → h'.get? a = some o) → (n = 0 → m = z) → (0 < n → (∃ i, i < n ∧ m = f i) ∧ ∀ i, i < n → f i ≤ m) → R (.ok (.ret (.int m u))) { t with heap := h', toks := tk }) :
    codeAny (model prog w) A (.builtin "max.loop" ⟨[.ref I, .none, .ref best], [(kn, .int z tz)]⟩) R t := by
  have notWr : best ∉ wr := fun z => apart (W.sub _ z)
  refine codeAny_builtin PySem.F.entry_max_loop ?_
  rw [Around.under_plainId PySem.F.plain_max_loop _]
  show wpAny _ A.in1 (seqItems? (.ref best) >>= _) _ _ t
  refine wpAny_bind (wpAny_seqItems there
    rfl ?_)
  show wpAny _ A.in1 (tryCatch (pyNext (.ref I)) _ >>= _) _ _ t
  cases e : n with
  | zero =>
    subst e
    refine wpAny_bind (wpAny_tryCatch (W.done t _ _ st fun h1 tk1 old => ?_))
    refine wpAny_bind (wpAny_rule (wpAny_pure ?_))
    exact fin z tz h1 tk1 (fun a o na _ q => old a o na q) (fun _ => rfl) fun h => absurd h (Nat.lt_irrefl 0)
  | succ k =>
    refine wpAny_bind (wpAny_tryCatch (W.item 0 t _ _ (by omega) st fun v h1 tk1 pv st1 old => ?_))
    obtain ⟨tv, rfl⟩ := num 0 v pv
    have there1 := old best _ notWr there
    show wpAny _ A.in1 (updateSeq best (fun _ => #[Value.int (f 0) tv, Value.int (f 0) tv]) >>= _) _ _ _
    refine wpAny_bind (wpAny_updateSeq there1
      rfl ?_)
    rw [max_name]
    refine wpAny_pure ⟨plainId_quiet PySem.F.plain_max_loop _, maxd_rest W f num apart [(kn, .int z tz)] k 1 _ (f 0) tv _ (by omega) (W.frame _ _ _ st1 fun a na o q => ?_) (Heap.get?_update_self _ there1 rfl) fun u' h' tk later => ?_⟩
    · exact (Heap.get?_update_other _ _ (fun z : best = a => apart (by rw [z]; exact na))).trans q
    · refine fin _ u' h' tk (fun a o na nb q => later a o na nb ((Heap.get?_update_other _ _ (Ne.symm nb)).trans (old a o na q))) (fun h => by omega) fun _ => ?_
      obtain ⟨g1, g2⟩ := topOf_ge f k 1 (f 0)
      refine ⟨?_, fun i hi => ?_⟩
      · rcases topOf_mem f k 1 (f 0) with h | ⟨i, hi, h⟩
        · exact ⟨0, by omega, h⟩
        · exact ⟨1 + i, by omega, h⟩
      · cases i with
        | zero => exact g1
        | succ i =>
          have := g2 i (by omega)
          rw [show 1 + i = i + 1 by omega] at this
          exact this
theorem ints_get : ∀ {its : List Value} {ns : List Int}, IntsAre its ns → ∀ (j : Nat) (v : Value), its[j]? = some v → ∃ t, v = .int (ns.getD j 0) t
  | _, _, .nil, j, v, h => by simp at h
  | _, _, .cons k t r, 0, v, h => ⟨t, (Option.some.inj h).symm⟩
  | _, _, .cons k t r, j + 1, v, h => ints_get r j v h
theorem call_maxd {l : Addr} {its : List Value} {ns : List Int} {z : Int} {tz : Tok} {Q : Value → Shared → Prop} (calm : A.handled = none) (hl : s.heap.IsList l its.toArray) (nums : IntsAre its ns)
    (fin : ∀ m u h' tk, (∀ a o, s.heap.get? a = some o → h'.get? a = some o) → (ns = [] → m = z) → (ns ≠ [] → m ∈ ns ∧ ∀ y ∈ ns, y ≤ m) → Q (.int m u) { s with heap := h', toks := tk }) :
    wpAny (model prog w) A (call (.builtin "max") [.ref l] [("default", .int z tz)]) Q E s := by
  have ok : checkBuiltinCall "max" ⟨[.ref l], [("default", .int z tz)]⟩ = pure () := by
    simp only [checkBuiltinCall, PySem.F.kind_max]
    have h := args_maxd (.ref l) (.int z tz)
    cases e : Manifest.signature? "max" with
    | none => rfl
    | some sig =>
      simp only [argsOk, e] at h
      exact h
  refine wpAny_call (codeAny_call_builtin PySem.F.plain_max PySem.F.entry_max ?_)
  rw [ok]
  refine wpAny_pure ?_
  show wpAny _ A.in1 (Builtin.Builtins.bindParams "max" ["key", "default"] 0 ⟨[], [("default", .int z tz)]⟩ >>= _) _ _ s
  refine wpAny_bind (wpAny_of_eq (show Builtin.Builtins.bindParams "max" ["key", "default"] 0 ⟨[], [("default", .int z tz)]⟩ = pure [none, some (.int z tz)] from rfl) ?_)
  refine wpAny_bind (wpAny_pure ?_)
  have lt : l < s.heap.objs.size := by
    obtain ⟨_, e, _⟩ := hl
    exact Heap.lt_size e
  have len := nums.length
  refine wpAny_bind (wpAny_pyIter_list hl ?_)
  refine wpAny_bind (wpAny_newObj_type ?_)
  rw [max_name]
  have W := Walks.list (prog := prog) (w := w) (A := A.in1) calm s.heap.objs.size l (Nat.ne_of_lt lt) its.toArray
  refine wpAny_pure ⟨plainId_quiet PySem.F.plain_max_loop _, ?_⟩
  refine maxd_loop W (fun i => ns.getD i 0) (fun j v hv => ?_) ?_ _ 0 ?_ (Heap.get?_push_size _ rfl) fun m u h' tk old h0 h1 => ?_
  · exact ints_get nums j v (by simpa using hv)
  · intro hm
    simp only [List.mem_cons, List.not_mem_nil, or_false, Heap.size_push] at hm
    rcases hm with h | h
    · exact absurd h (Nat.succ_ne_self _)
    · exact absurd h (Nat.ne_of_gt (Nat.lt_succ_of_lt lt))
  · exact ⟨⟨_, Heap.get?_push_of_some _ (Heap.get?_push_size _ rfl), rfl, rfl⟩, (hl.push _).push _⟩
  · have size : its.toArray.size = ns.length := by rw [List.size_toArray]; exact len
    refine fin m u h' tk (fun a o q => ?_) (fun e => h0 (by rw [size, e]; rfl)) fun ne => ?_
    · have la : a < s.heap.objs.size := Heap.lt_size q
      refine old a o (fun hm => ?_) (fun e => ?_) (Heap.get?_push_of_some _ (Heap.get?_push_of_some _ q))
      · rw [List.mem_singleton.mp hm] at la
        exact absurd la (Nat.lt_irrefl _)
      · rw [e] at la
        exact absurd (Nat.lt_of_lt_of_le la (by rw [Heap.size_push]; exact Nat.le_succ _)) (Nat.lt_irrefl _)
    · obtain ⟨⟨i, hi, e⟩, top⟩ := h1 (by rw [size]; exact List.length_pos_iff.mpr ne)
      rw [size] at hi top
      refine ⟨?_, fun y hy => ?_⟩
      · rw [e, List.getD_eq_getElem?_getD, List.getElem?_eq_getElem hi]
        exact List.getElem_mem hi
      · obtain ⟨j, hj, e⟩ := List.getElem_of_mem hy
        have := top j hj
        rw [List.getD_eq_getElem?_getD, List.getElem?_eq_getElem hj] at this
        rw [← e]
        exact this
end
section
variable {X : Cx} {e d : Expr} {ta td : TE} {p pos kpos : Pos}
/-- max(e, default=d) -/
def tMaxD (K : PySem.W.Frag) (ta td : TE) : TE := fun σ H Q => ta σ H fun x H1 => tCons td tNil σ H1 fun vs H2 => ∃ y, vs = [y] ∧ ∃ (a : Addr) (ns : List Int) (z : Int), x = .ref a ∧ y = .int z ∧ SqL K H2 a (ns.map V.int) ∧
  ∀ m, (ns = [] → m = z) → (ns ≠ [] → m ∈ ns ∧ ∀ y ∈ ns, y ≤ m) → Q (.int m) H2
theorem pe_maxD (calm : X.calm = true) (hg : Gl X "max") (hm : X.mg "max" = none) (ha : PE X e ta) (hd : PE X d td) (hs : starEach [e] X.env = (false, eval e X.env) :: starEach [] X.env := by rfl)
    (he : backTo pos (starEach [e] X.env) = (false, eval e X.env) :: backTo pos (starEach [] X.env) := by rfl) (hp : (backTo pos (starEach [e] X.env)).any (·.1) = false := by rfl)
    (hall : (backToKw pos (keywordEach [⟨some "default", d, kpos⟩] X.env)).all (·.1.isSome) = true := by rfl) (hkw : (backToKw pos (keywordEach [⟨some "default", d, kpos⟩] X.env)).any (·.1.isNone) = false := by rfl)
    (hn : (backToKw pos (keywordEach [⟨some "default", d, kpos⟩] X.env)).filterMap (·.1) = [("default" : Str)] := by rfl) :
    PE X (.Call (.Name "max" p) [e] [⟨some "default", d, kpos⟩] pos) (tMaxD X.K ta td) := by
  refine ⟨fun pins s σ H Q I h => ?_⟩
  refine wpAny_Call_Name_kw (ld_blt I hg hm (show bootBuiltins "max" = some (.builtin "max") by decide +kernel) ?_)
  refine PyProof.Rows.callWith_kw (id := "max") ?_ he hp hall hkw
  rw [hs]
  show wpAny _ _ (spliced ((false, eval e X.env) :: backTo pos (starEach [] X.env))) _ _ s
  refine Calls.spliced_cons (thn (ha.run pins s σ H _ I h) fun u s1 ⟨x, H1, I1, r1, q1⟩ => ?_)
  refine Calls.spliced_nil ?_
  refine thn ((pk_cons (nm := some "default") (kpos := kpos) hd (pk_nil (X := X))).run pos pins s1 σ H1 (fun vs H2 => ∃ y, vs = [y] ∧ ∃ (a : Addr) (ns : List Int) (z : Int), x = .ref a ∧ y = .int z ∧ SqL X.K H2 a (ns.map V.int) ∧
    ∀ m, (ns = [] → m = z) → (ns ≠ [] → m ∈ ns ∧ ∀ y ∈ ns, y ≤ m) → Q (.int m) H2) I1 q1) ?_
  · rintro us s2 ⟨vs, H2, I2, rv, y, rfl, a, ns, z, rfl, rfl, hl, q⟩
    rw [hn]
    cases rv with
    | cons r2 r3 =>
      cases r3
      obtain ⟨tz, rfl⟩ := r2
      cases r1
      obtain ⟨its, ri, pl, _⟩ := I2.list hl
      show wpAny _ _ (call (.builtin "max") [.ref a] [("default", .int z tz)]) _ _ _
      exact call_maxd (I2.ok.hd calm) pl.isList ri.ints fun m u h' tk old h0 h1 => ⟨.int m, H2, I2.kept old, ⟨u, rfl⟩, q m h0 h1⟩
end


end My
namespace My
open PySem PySem.Spec PyProof.Rows L2 TL
/-! ### len, [], an operator with an int, of an own class; classmethods -/
section
variable {X : Cx} {k : Nat} {f C : Addr} {ps : List Str} {sp : Sp} {E : XK} {e o b : Expr} {es : List Expr} {x m : Str} {ta tb : TE} {t : TA} {p pos apos : Pos}
def rLenO (C : Addr) (sp : Sp) : List V → Hp → VK → Prop := fun xs H Q => ∃ a dx fs, xs = [.ref a] ∧ H a = some (.ins C dx fs) ∧ sp [.ref a] H (fun v H' => ∃ n : Nat, v = .int n ∧ (n : Int) < 2 ^ 63 ∧ Q (.int n) H') E0
theorem call_lenO (c : MetC X.prog X.w X.K X.mg X.base C "__len__" k ps sp) (room : Room (k + 1) X.A) : CallR X (.builtin "len") (rLenO C sp) := by
  obtain ⟨f, fd, ok, M, hb⟩ := c.ex
  intro pins s σ H xs us Q I r h
  obtain ⟨a, dx, fs, rfl, ha, q⟩ := h
  rw [Vals.ref1 r]
  obtain ⟨od, J⟩ := inst_at I ha
  obtain ⟨mm, fr⟩ := I.fr
  refine PySem.W.len_K fr I.ok.mod.kin J M.at_ M.fn ?_
  refine wpAny_mono (Runs1.of ok room hb pass0 pins σ H s _ [.ref a] [.ref a] I (.cons rfl .nil) q) (fun u s' z => ?_) fun _ _ z => z
  obtain ⟨v, H', I', rv, n, rfl, hn, q'⟩ := z
  obtain ⟨tk, rfl⟩ := rv
  exact ⟨⟨Int.natCast_nonneg n, hn⟩, .int n, H', I'.tok _, ⟨_, rfl⟩, q'⟩
def rIxO (C : Addr) (sp : Sp) : R2 := fun x y H Q => ∃ a dx fs, x = .ref a ∧ H a = some (.ins C dx fs) ∧ sp [x, y] H Q E0
theorem pe_ixO (c : MetC X.prog X.w X.K X.mg X.base C m k ps sp) (room : Room (k + 1) X.A) (ha : PE X o ta) (hi : PE X b tb) (fn : ∀ f, Meth X.K C m f → PySem.W.fnIn X.K f = true) (hm : m = "__getitem__" := by rfl)
    (hsl : ∀ (x : Addr) (i : Value), subscripted b true (.ref x) i = runValue (.builtin "lifetime.subscript" ⟨[.ref x, i], []⟩) := by intro _ _; with_unfolding_all rfl) : PE X (.Subscript o b pos) (tOp (rIxO C sp) ta tb) := by
  subst hm
  obtain ⟨f, fd, ok, M, hb⟩ := c.ex
  refine ⟨fun pins s σ H Q I h => ?_⟩
  refine Subscript_ (binT ha hi I h fun v u s2 x y H2 I2 rx ry q => ?_)
  obtain ⟨a, dx, fs, rfl, hx, q⟩ := q
  cases rx
  obtain ⟨od, J⟩ := inst_at I2 hx
  obtain ⟨mm, fr⟩ := I2.fr
  exact PySem.W.sub_K fr I2.ok.mod.kin J M.at_ (fn f M) M.fn (Runs1.of ok room hb pass0 pins σ H2 s2 _ [.ref a, u] [.ref a, y] I2 (.cons rfl (.cons ry .nil)) q) (hsl a u)
/-- x op i, i an int -/
structure OwnI (K : PySem.W.Frag) (C : Addr) (op : Operator) : Prop where
  first : PySem.W.selfFirst K C = true
  rev : ∃ rc, PySem.W.findIn K (.ref C) (PySem.dunderR op.info.2) = some rc ∧ (rc = none ∨ ∃ g : Addr, rc = some (.ref g))
  i1 : ∃ fo, PySem.W.findIn K (.type "int") (PySem.dunder op.info.2) = some fo
  i2 : ∃ ro, PySem.W.findIn K (.type "int") (PySem.dunderR op.info.2) = some ro
  sub : PySem.W.subIn K (.type "int") (.ref C) = some false
def rOwnI (C : Addr) (sp : Sp) : R2 := fun x y H Q => ∃ a dx fs, ∃ i : Int, x = .ref a ∧ y = .int i ∧ H a = some (.ins C dx fs) ∧ sp [x, y] H Q E0
theorem op_ownI {op : Operator} (c : MetC X.prog X.w X.K X.mg X.base C m k ps sp) (room : Room k X.A) (O : OwnI X.K C op) (name : PySem.dunder op.info.2 = m := by rfl) : OpR X (binaryOp op) (rOwnI C sp) := by
  obtain ⟨f, fd, ok, M, hb⟩ := c.ex
  intro pins s σ H x y u v Q I rx ry h
  obtain ⟨a, dx, fs, i, rfl, rfl, ha, q⟩ := h
  cases rx
  obtain ⟨tk, rfl⟩ := ry
  obtain ⟨od, J⟩ := inst_at I ha
  obtain ⟨mm, fr⟩ := I.fr
  obtain ⟨first, ⟨rc, r1, r2⟩, ⟨fo, i1⟩, ⟨ro, i2⟩, sub⟩ := O
  refine PySem.W.ksp_binT fr I.ok.mod.kin J (T := "int") rfl first (name ▸ M.at_) M.fn r1 r2 i1 i2 sub ?_
  exact wpAny_mono (Runs.of ok room hb pass0 pins σ H s Q [.ref a, .int i tk] [.ref a, .int i] I (.cons rfl (.cons ⟨tk, rfl⟩ .nil)) q) (fun _ _ z => ep_back z) fun _ _ z => z
/-- a classmethod by its promise -/
structure CmtC (P : Program) (w : World) (K : PySem.W.Frag) (mg : Str → Option Value) (base : Heap) (C : Addr) (m : Str) (k : Nat) (ps : List Str) (sp : Sp) : Prop where
  ex : ∃ f fd mc p, FnOk P w K mg base CX0 k f fd ps sp ∧ ClX.CRead K C mc ∧ ClX.CMet K C mc m p f ∧ Binds K fd ps []
theorem FnR.ofC {P : Program} {w : World} {K : PySem.W.Frag} {mg : Str → Option Value} {base : Heap} {k : Nat} {f : Addr} {fd : FuncData} {ps : List Str} {sp : Sp} (ok : FnOk P w K mg base CX0 k f fd ps sp) (hb : Binds K fd ps []) : FnR P w K mg base CX0 k f sp := by
  intro A outer s H us vs Q E hr e0 r h
  have there : K.In s.heap := e0.mod.kin.keeps (fun b o e => (e0.bs b o e).1)
  have len : (us ++ []).length = ps.length := by rw [List.append_nil, ← r.length]; exact ok.len _ _ _ _ h
  have hv := hb s us there len
  rw [List.append_nil] at hv
  exact ok.run A outer s H ⟨us, []⟩ us vs Q E hr e0 hv r h
theorem pe_cmethC {pl : Sem Bool} (c : CmtC X.prog X.w X.K X.mg X.base C m k ps sp) (room : Room k X.A) (ho : PE X o ta) (ha : PA X (e :: es) t)
    (hst : starEach (e :: es) X.env = (false, eval e X.env) :: starEach es X.env := by rfl) (hpl : (backTo pos (starEach es X.env)).any (·.1) = false := by rfl)
    (ht : eval (.Call (.Attribute o m apos) (e :: es) [] pos) X.env = (do
      let ov ← eval o X.env
      standAt apos.atName
      let (f, first) ← holding [ov] (getMethod ov m pl)
      callWith pos f first (backTo pos (starEach (e :: es) X.env)) (backToKw pos (keywordEach [] X.env))) := by rfl) :
    PE X (.Call (.Attribute o m apos) (e :: es) [] pos) (ClX.tCMeth C sp E0 ta t) := by
  obtain ⟨f, fd, mc, p, ok, hr, hm, hb⟩ := c.ex
  exact ClX.pe_cmeth ho hr hm (FnR.ofC ok hb) room pass0 ha hst hpl ht
end


end My
namespace My
open PySem PySem.Spec PyProof.Rows L2 TL
/-! ### == of an instance and anything; str of an instance -/
section
variable {X : Cx} {k : Nat} {f C : Addr} {ps : List Str} {sp : Sp} {E : XK}
def rOwnX (K : PySem.W.Frag) (C : Addr) (sp : Sp) (E : XK) : R2 := fun x y H Q => ∃ a dx fs t0, x = .ref a ∧ H a = some (.ins C dx fs) ∧ TyX K H y t0 ∧ PySem.W.notFirst K C t0 = true ∧ sp [x, y] H Q E
theorem op_eqX (c : MetC X.prog X.w X.K X.mg X.base C "__eq__" k ps sp) (room : Room k X.A) : OpR X (compareOp .Eq) (rOwnX X.K C sp E0) := by
  obtain ⟨f, fd, ok, M, hb⟩ := c.ex
  intro pins s σ H x y u v Q I rx ry h
  obtain ⟨a, dx, fs, t0, rfl, ha, ty, hn, q⟩ := h
  cases rx
  obtain ⟨od, J⟩ := inst_at I ha
  obtain ⟨m, fr⟩ := I.fr
  obtain ⟨Ph, Z, p, hx⟩ := kit_of I ry ty
  refine PySem.W.cmp_K (op := .Eq) room.units0 fr I.ok.mod.kin J (Z.ty _ _ I.kIn p) hn M.at_ M.fn ?_
  exact wpAny_mono (Runs.of ok room hb pass0 pins σ H s Q [.ref a, v] [.ref a, y] I (.cons rfl (.cons ry .nil)) q) (fun _ _ z => ep_back z) fun _ _ z => z
def rStrO (C : Addr) (sp : Sp) : List V → Hp → VK → Prop := fun xs H Q => ∃ a dx fs, xs = [.ref a] ∧ H a = some (.ins C dx fs) ∧ sp [.ref a] H (fun v H' => ∃ y, v = .str y ∧ Q (.str y) H') E0
theorem call_strO (c : MetC X.prog X.w X.K X.mg X.base C "__str__" k ps sp) (room : Room (k + 2) X.A) : CallR X (.type "str") (rStrO C sp) := by
  obtain ⟨f, fd, ok, M, hb⟩ := c.ex
  intro pins s σ H xs us Q I r h
  obtain ⟨a, dx, fs, rfl, ha, q⟩ := h
  rw [Vals.ref1 r]
  obtain ⟨od, J⟩ := inst_at I ha
  refine PySem.W.kso_call (by have := room.units; show X.A.units + 1 + 1 < cLine; omega) I.kIn J M.at_ M.fn ?_
  have len : [Value.ref a].length = ps.length := ok.len _ _ _ _ q
  have ran := ok.run X.A.in1.in1 X.stack s H ⟨[.ref a], []⟩ [Value.ref a] [V.ref a] _ E0 room.in1.in1 I.env0.in1.in1 (hb s [.ref a] I.kIn len) (.cons rfl .nil) q
  refine wpAny_call (codeAny_mono ran ?_)
  intro r s' h
  match r, h with
  | .error e, h => exact pass0 pins σ H s e s' I h
  | .ok (.ret u), h =>
    obtain ⟨v, H', I', rv, y, rfl, q'⟩ := I.after h
    obtain ⟨tk, rfl⟩ := rv
    exact ⟨.str y, H', I', ⟨tk, rfl⟩, q'⟩
  | .ok .next, h => exact False.elim h
  | .ok .brk, h => exact False.elim h
  | .ok .cont, h => exact False.elim h
end


end My
namespace My
open PySem PySem.Spec PyProof.Rows L2 TL
/-! ### a tuple taken a number of times; != of an instance and anything -/
theorem tuple_mul1 (l : Addr) (items : Array Value) (n : Nat) (dd : Option Addr) (sl : Array (Option Value)) (u : Tok) :
    Meets (Builtin.«tuple.__mul__» ⟨[.ref l, .int 1 u], []⟩) (fun _ R s => s.heap.get? l = some { cls := .type "tuple", dict := dd, data := .seq items n, slots := sl } ∧ R (.ok (.ret (Value.ref l))) s) :=
  .of_wp fun prog w A R s h => by
    obtain ⟨hp, g, d, tk, os⟩ := s
    obtain ⟨hl, h⟩ := h
    have f1 := AutoSeq1.idx_int
    wp_walk using wpAny_loadPart' hl
    exact ⟨_, rfl, h⟩
def rRepA (K : PySem.W.Frag) : R2 := fun x y H Q => (∃ l xs, x = .ref l ∧ y = .int 1 ∧ SqT K H l xs ∧ Q (.ref l) H) ∨ rRepT K x y H Q
section
variable {X : Cx}
theorem op_repA : OpR X (binaryOp .Mult) (rRepA X.K) := by
  intro pins s σ H x y v u Q I rx ry h
  rcases h with h | h
  · obtain ⟨l, xs, rfl, rfl, hT, q⟩ := h
    cases rx
    obtain ⟨t, rfl⟩ := ry
    obtain ⟨its, r, ⟨⟨cls, dd, data, sl⟩, ho, hc, n, hd⟩, hs⟩ := I.tuple hT
    simp only at hc hd
    subst hc hd
    refine wpAny_binaryOp_repeat_ref (T := "tuple") (U := "int") (by decide) ⟨_, ho, rfl⟩ (fun s' => typeIs_int s' 1 t) noFill_tuple_mul F.fills_int_mul F.slot_int_rmul repeat_tuple F.slot_int_index.lookup
      (call_meets F.slot_int_rmul (typeIs_int s 1 t) F.entry_int_rmul (F.args_int_rmul_2 _ _) (int_rmul_tuple 1 t l its.toArray n dd sl)
        ⟨ho, rfl, ⟨_, ho, rfl⟩, call_meets F.slot_tuple_mul ⟨_, ho, rfl⟩ F.entry_tuple_mul (F.args_tuple_mul_2 _ _) (tuple_mul1 l its.toArray n dd sl t) ⟨ho, ?_⟩⟩)
    exact ⟨.ref l, H, I, rfl, q⟩
  · exact op_repT pins s σ H x y v u Q I rx ry h
end
section
variable {X : Cx} {k : Nat} {C : Addr} {ps : List Str} {sp : Sp} {E : XK}
/-- x != y, y anything -/
def rOwnNeX (K : PySem.W.Frag) (C : Addr) (sp : Sp) (E : XK) : R2 := fun x y H Q => ∃ a dx fs t0, x = .ref a ∧ H a = some (.ins C dx fs) ∧ TyX K H y t0 ∧ PySem.W.notFirst K C t0 = true ∧ sp [x, y] H (fun v H' => ∃ c, v = .bl c ∧ Q (.bl (!c)) H') E
theorem op_neX (c : MetC X.prog X.w X.K X.mg X.base C "__eq__" k ps sp) (rm : Room (k + 1) X.A) (ne : PySem.W.findIn X.K (.ref C) "__ne__" = some (some (.builtin "object.__ne__"))) (under : PySem.W.subIn X.K (.ref C) (.type "object") = some true) : OpR X (compareOp .NotEq) (rOwnNeX X.K C sp E0) := by
  obtain ⟨f, fd, ok, M, hb0⟩ := c.ex
  have R := Runs1.of (X := X) ok rm hb0 pass0
  have room : X.A.units + 1 < cLine := by have := rm.units; omega
  intro pins s σ H x y u v Q I rx ry h
  obtain ⟨a, dx, fs, t0, rfl, ha, ty, first, q⟩ := h
  cases rx
  obtain ⟨od, J⟩ := inst_at I ha
  obtain ⟨Ph, Z, p, hx⟩ := kit_of I ry ty
  have K' := I.kIn
  have hb := Z.ty (model X.prog X.w) _ K' p
  have sub : PySem.W.Looks (model X.prog X.w) s.heap (isInstance (.ref a) (.type "object")) true := J.type.andThen (PySem.W.looks_subIn K' under)
  have one : wpAny (model X.prog X.w) X.A (tryCompare (.ref a) "__ne__" v) (fun r s' => ∃ w, r = some w ∧ EP X pins σ Q w s') X.xe s := by
    unfold tryCompare
    refine wpAny_bind ?_
    simp only [callSpecialIfBound?, bindSpecialIfBound?]
    refine wpAny_holding (wpAny_bind (wpAny_bind (wpAny_bind (J.type.here ((PySem.W.looks_findIn K' ne).here ?_)))))
    simp only [PySem.F.cmp_object.ne.bind]
    have fin : wpAny (model X.prog X.w) X.A (call (.builtin "object.__ne__") [.ref a, v]) (fun w s' => EP X pins σ Q w s' ∧ w ≠ .notImplemented) X.xe s := by
      refine wpAny_call (codeAny_call_builtin PySem.F.cmp_object.ne.plain PySem.F.cmpEntry_ne (@PySem.W.check_slot (model X.prog X.w) _ _ s "object.__ne__" "object" "__ne__" (.ref a) [v] [] _ PySem.F.cmpKind_ne PySem.F.cmpSplit_ne sub (PySem.F.cmpArgs_ne _ _) ?_))
      unfold Builtin.«object.__ne__»
      refine wpAny_bind (m := slotArgs "__ne__" 1 _) (wpAny_pure ?_)
      refine wpAny_bind (wpAny_cRoomFor (by show X.A.units + 1 < cLine; exact room) (wpAny_bind ?_))
      refine PySem.W.ifBound_K K' J M.at_ M.fn (wpAny_mono (R pins σ H s _ [.ref a, v] [.ref a, y] I (.cons rfl (.cons ry .nil)) q) (fun w s' z => ?_) fun _ _ z => z)
      obtain ⟨v, H', I', r, c, rfl, q'⟩ := z
      cases r
      refine wpAny_bind (wpAny_truthy_bool ?_)
      exact wpAny_pure ⟨⟨.bl (!c), H', I', rfl, q'⟩, fun z => nomatch z⟩
    refine wpAny_bind (wpAny_askSetting (wpAny_ite ?_))
    split
    · refine wpAny_bind (wpAny_pure (wpAny_pure (wpAny_bind (wpAny_mono fin (fun w s' z => wpAny_pure ?_) fun _ _ z => z))))
      obtain ⟨z, no⟩ := z
      cases w <;> first | exact absurd rfl no | exact wpAny_pure ⟨_, rfl, z⟩
    · refine wpAny_tryCatch (wpAny_bind (wpAny_pure (wpAny_pure (wpAny_bind (wpAny_mono fin (fun w s' z => wpAny_pure ?_) fun _ _ z => z)))))
      obtain ⟨z, no⟩ := z
      cases w <;> first | exact absurd rfl no | exact wpAny_pure ⟨_, rfl, z⟩
  show wpAny (model X.prog X.w) X.A (richCompare .NotEq (.ref a) v) _ _ _
  unfold richCompare
  simp only [oneThing_ref]
  refine wpAny_holding (wpAny_bind (wpAny_cRoomFor (by omega) ?_))
  refine wpAny_bind (J.type.here (wpAny_bind (hb.here ?_)))
  split
  · rename_i q
    have e : PySem.W.subIn X.K t0 (.ref C) = some false := by
      rcases Bool.or_eq_true_iff.mp first with e | e
      · rw [beq_iff_eq.mp e] at q; simp at q
      · exact beq_iff_eq.mp e
    refine wpAny_bind ((PySem.W.looks_subIn K' e).here ?_)
    simp only [Bool.false_eq_true, if_false]
    refine wpAny_bind (wpAny_mono one (fun r s' z => ?_) fun _ _ e => e)
    obtain ⟨v, rfl, hq⟩ := z
    exact wpAny_pure hq
  · refine wpAny_bind (wpAny_pure ?_)
    simp only [Bool.false_eq_true, if_false]
    refine wpAny_bind (wpAny_mono one (fun r s' z => ?_) fun _ _ e => e)
    obtain ⟨v, rfl, hq⟩ := z
    exact wpAny_pure hq
end


end My
namespace My
open PySem PySem.Spec PyProof.Rows L2 TL
/-! ### zip(a tuple, a list): walked, and made a list of -/
open PySem.Calls in
section
variable {prog : Program} {w : World} {A : Around} {E : Value → Shared → Prop} {s : Shared} {z TI TO T i1 i2 : Addr} {fp1 fp2 : List Addr} {n1 n2 n i : Nat} {P1 P2 : Nat → Value → Prop} {St1 St2 : Nat → Heap → Prop} {f : Bool} {oT : Obj}
theorem zipH_next_item {Q : Value → Shared → Prop} (S : ZipSep2 z TI TO i1 i2 fp1 fp2) (D1 : Draws prog w A i1 fp1 n1 P1 St1) (D2 : Draws prog w A i2 fp2 n2 P2 St2)
    (hz : IsZipHeld s.heap z TI TO T f) (hT : s.heap.get? T = some oT) (hTI : IsTupOf2 s.heap TI (.ref i1) (.ref i2)) (st1 : St1 i s.heap) (st2 : St2 i s.heap) (hlt1 : i < n1) (hlt2 : i < n2)
    (hQ : ∀ x y h' tk, P1 i x → P2 i y → IsZipHeld h' z TI TO T true → St1 (i + 1) h' → St2 (i + 1) h' → IsTupOf2 h' s.heap.objs.size x y → h'.objs.size = s.heap.objs.size + 1 →
      (∀ c o, c ≠ z → c ≠ i1 → c ≠ i2 → s.heap.get? c = some o → h'.get? c = some o) → Q (.ref s.heap.objs.size) { s with heap := h', toks := tk }) :
    wpAny (model prog w) A (Builtin.«zip.__next__» ⟨[.ref z], []⟩) (fun fin s' => ∃ v, fin = .done (.ret v) ∧ Q v s') E s := by
  obtain ⟨hp, g, d, tk0, os⟩ := s
  show wpAny _ _ (field (.ref z) 2 >>= _) _ _ _
  refine wpAny_bind (wpAny_field hz rfl (x := .bool false) rfl ?_)
  show wpAny _ _ (field (.ref z) 3 >>= _) _ _ _
  refine wpAny_bind (wpAny_field hz rfl (x := .ref TI) rfl ?_)
  refine wpAny_bind (wpAny_seqItems hTI rfl ?_)
  show wpAny _ _ (Builtin.SmallTypes.ownedTupleIsFree (.ref z) >>= _) _ _ _
  refine wpAny_bind (wpAny_tupleHeld_zip hz hT fun h₁ hz₁ hs₁ => ?_)
  replace hs₁ : Heap.SameBut z hp h₁ := hs₁
  simp only [Bool.false_eq_true, if_false]
  refine wpAny_bind ?_
  rw [← Array.forIn_toList]
  simp only [List.forIn_cons, List.forIn_nil]
  refine wpAny_bind (wpAny_bind (wpAny_holding ?_))
  show wpAny _ _ (Builtin.SmallTypes.nextOf (.ref i1) >>= _) _ _ ⟨h₁, g, d, tk0, os⟩
  refine wpAny_bind (D1.item i _ _ _ hlt1 (D1.over st1 hs₁ S.zf1) fun x h₂ tk1 hx sn1 hs₂ => wpAny_pure ?_)
  replace hs₂ : Heap.SameBut i1 h₁ h₂ := hs₂
  refine wpAny_pure ?_
  refine wpAny_bind (wpAny_bind (wpAny_holding ?_))
  show wpAny _ _ (Builtin.SmallTypes.nextOf (.ref i2) >>= _) _ _ ⟨h₂, g, d, tk1, os⟩
  refine wpAny_bind (D2.item i _ _ _ hlt2 (D2.over (D2.over st2 hs₁ S.zf2) hs₂ S.sep1_2) fun y h₃ tk2 hy sn2 hs₃ => wpAny_pure ?_)
  replace hs₃ : Heap.SameBut i2 h₂ h₃ := hs₃
  refine wpAny_pure (wpAny_pure ?_)
  show wpAny _ _ (newTuple [x, y] >>= _) _ _ ⟨h₃, g, d, tk2, os⟩
  refine wpAny_bind (wpAny_newTuple ?_)
  have hsz : h₃.objs.size = hp.objs.size := by rw [hs₃.1, hs₂.1, hs₁.1]
  have hz₃ : IsZipHeld h₃ z TI TO T true := hs₃.extBut _ _ S.zi2 (hs₂.extBut _ _ S.zi1 hz₁)
  have hk : ∀ c o, c ≠ z → c ≠ i1 → c ≠ i2 → hp.get? c = some o → h₃.get? c = some o := fun c o c1 c2 c3 e => hs₃.extBut _ _ c3 (hs₂.extBut _ _ c2 (hs₁.extBut _ _ c1 e))
  refine wpAny_pure ⟨_, rfl, ?_⟩
  show Q (.ref h₃.objs.size) _
  have hpp : IsTupOf2 (h₃.push { cls := .type "tuple", data := .seq #[x, y] }) h₃.objs.size x y := Heap.get?_push_size _ rfl
  have hz4 : (h₃.push { cls := .type "tuple", data := .seq #[x, y] }).objs.size = h₃.objs.size + 1 := Heap.size_push ..
  rw [hsz] at hpp hz4 ⊢
  exact hQ x y _ tk2 hx hy (Heap.get?_push_of_some _ hz₃) (D1.frame _ _ _ (D1.over sn1 hs₃ S.sep2_1) fun b _ o e => Heap.get?_push_of_some _ e) (D2.frame _ _ _ sn2 fun b _ o e => Heap.get?_push_of_some _ e) hpp hz4
    fun c o c1 c2 c3 e => Heap.get?_push_of_some _ (hk c o c1 c2 c3 e)
theorem zipH_next_end {Q : Fin → Shared → Prop} (S : ZipSep2 z TI TO i1 i2 fp1 fp2) (D1 : Draws prog w A i1 fp1 n1 P1 St1) (D2 : Draws prog w A i2 fp2 n2 P2 St2)
    (hz : IsZipHeld s.heap z TI TO T f) (hT : s.heap.get? T = some oT) (hTI : IsTupOf2 s.heap TI (.ref i1) (.ref i2)) (st1 : St1 n1 s.heap)
    (hE : ∀ h' tk e, (∀ c o, c ≠ z → c ≠ i1 → c ≠ i2 → s.heap.get? c = some o → h'.get? c = some o) → (∃ o, h'.get? e = some o ∧ o.cls = .type "StopIteration") → E (.ref e) { s with heap := h', toks := tk }) :
    wpAny (model prog w) A (Builtin.«zip.__next__» ⟨[.ref z], []⟩) Q E s := by
  obtain ⟨hp, g, d, tk0, os⟩ := s
  show wpAny _ _ (field (.ref z) 2 >>= _) _ _ _
  refine wpAny_bind (wpAny_field hz rfl (x := .bool false) rfl ?_)
  show wpAny _ _ (field (.ref z) 3 >>= _) _ _ _
  refine wpAny_bind (wpAny_field hz rfl (x := .ref TI) rfl ?_)
  refine wpAny_bind (wpAny_seqItems hTI rfl ?_)
  show wpAny _ _ (Builtin.SmallTypes.ownedTupleIsFree (.ref z) >>= _) _ _ _
  refine wpAny_bind (wpAny_tupleHeld_zip hz hT fun h₁ hz₁ hs₁ => ?_)
  replace hs₁ : Heap.SameBut z hp h₁ := hs₁
  simp only [Bool.false_eq_true, if_false]
  refine wpAny_bind ?_
  rw [← Array.forIn_toList]
  simp only [List.forIn_cons, List.forIn_nil]
  refine wpAny_bind (wpAny_bind (wpAny_holding ?_))
  show wpAny _ _ (Builtin.SmallTypes.nextOf (.ref i1) >>= _) _ _ ⟨h₁, g, d, tk0, os⟩
  refine wpAny_bind (D1.done _ _ _ (D1.over st1 hs₁ S.zf1) fun h₂ e hs₂ he => ?_)
  exact hE h₂ tk0 e (fun c o c1 c2 _ x => hs₂ _ _ c2 (hs₁.extBut _ _ c1 x)) he
theorem pyNext_zipH_item {Q : Option Value → Shared → Prop} (S : ZipSep2 z TI TO i1 i2 fp1 fp2) (D1 : Draws prog w A.in1 i1 fp1 n1 P1 St1) (D2 : Draws prog w A.in1 i2 fp2 n2 P2 St2)
    (hz : IsZipHeld s.heap z TI TO T f) (hT : s.heap.get? T = some oT) (hTI : IsTupOf2 s.heap TI (.ref i1) (.ref i2)) (st1 : St1 i s.heap) (st2 : St2 i s.heap) (hlt1 : i < n1) (hlt2 : i < n2)
    (hQ : ∀ x y h' tk, P1 i x → P2 i y → IsZipHeld h' z TI TO T true → St1 (i + 1) h' → St2 (i + 1) h' → IsTupOf2 h' s.heap.objs.size x y → h'.objs.size = s.heap.objs.size + 1 →
      (∀ c o, c ≠ z → c ≠ i1 → c ≠ i2 → s.heap.get? c = some o → h'.get? c = some o) → Q (some (.ref s.heap.objs.size)) { s with heap := h', toks := tk }) :
    wpAny (model prog w) A (pyNext (.ref z)) Q E s := by
  have hTy : s.TypeIs (.ref z) "zip" := ⟨_, hz, rfl⟩
  unfold pyNext
  exact wpAny_bind (wpAny_attempt (wpAny_callSpecial?_slot (name := Str.ofString "__next__") hTy F.slot_zip_next
    (wpAny_call_entry F.slot_zip_next hTy F.entry_zip_next
      (zipH_next_item S D1 D2 hz hT hTI st1 st2 hlt1 hlt2 fun x y h' tk a0 a00 a1 a3 a4 a5 a6 a7 => wpAny_pure (hQ x y h' tk a0 a00 a1 a3 a4 a5 a6 a7)) (F.args_zip_next_1 _))))
theorem pyNext_zipH_end {Q : Option Value → Shared → Prop} (S : ZipSep2 z TI TO i1 i2 fp1 fp2) (D1 : Draws prog w A.in1 i1 fp1 n1 P1 St1) (D2 : Draws prog w A.in1 i2 fp2 n2 P2 St2)
    (hz : IsZipHeld s.heap z TI TO T f) (hT : s.heap.get? T = some oT) (hTI : IsTupOf2 s.heap TI (.ref i1) (.ref i2)) (st1 : St1 n1 s.heap)
    (hQ : ∀ h' tk, (∀ c o, c ≠ z → c ≠ i1 → c ≠ i2 → s.heap.get? c = some o → h'.get? c = some o) → Q none { s with heap := h', toks := tk }) : wpAny (model prog w) A (pyNext (.ref z)) Q E s := by
  have hTy : s.TypeIs (.ref z) "zip" := ⟨_, hz, rfl⟩
  unfold pyNext
  refine wpAny_bind (wpAny_attempt (wpAny_callSpecial?_slot (name := Str.ofString "__next__") hTy F.slot_zip_next
    (wpAny_call_entry F.slot_zip_next hTy F.entry_zip_next (zipH_next_end S D1 D2 hz hT hTI st1 fun h' tk e hk he => ?_) (F.args_zip_next_1 _))))
  obtain ⟨o, ho, hc⟩ := he
  refine wpAny_bind (wpAny_isInstance (T := "StopIteration") (b := true) ⟨o, ho, hc⟩ isSubtype_stop ?_)
  exact wpAny_pure (hQ _ _ hk)
/-- the zip at turn i, its last tuple still out or none given out yet -/
def ZlSt (h : Heap) (z TI TO i1 i2 S : Addr) (St1 St2 : Nat → Heap → Prop) (i : Nat) : Prop :=
  IsTupOf2 h TI (.ref i1) (.ref i2) ∧ St1 i h ∧ St2 i h ∧ ((IsZip h z TI TO .none ∧ ∃ a b, IsTupOf2 h TO a b) ∨ ∃ T f oT, IsZipHeld h z TI TO T f ∧ h.get? T = some oT ∧ T ≠ z ∧ T ≠ i1 ∧ T ≠ i2 ∧ T ≠ S)
structure ZG (P1 P2 : Nat → Value → Prop) (lo : Addr) (h : Heap) (as : List Addr) : Prop where
  rise : as.Pairwise (· < ·)
  above : ∀ a ∈ as, lo < a
  pairs : ∀ (j : Nat) (a : Addr), as[j]? = some a → ∃ x y, P1 j x ∧ P2 j y ∧ h.get? a = some { cls := .type "tuple", data := .seq #[x, y] }
theorem ZG.there {lo : Addr} {h : Heap} {as : List Addr} (g : ZG P1 P2 lo h as) {a : Addr} (ha : a ∈ as) : a < h.objs.size := by
  obtain ⟨j, hj⟩ := List.mem_iff_getElem?.mp ha
  obtain ⟨_, _, _, _, e⟩ := g.pairs j a hj
  exact Heap.lt_size e
theorem zl_loop {R : Result → Shared → Prop} {S : Addr} (Z : ZipSep2 z TI TO i1 i2 fp1 fp2) (D1 : Draws prog w A.in1.in1 i1 fp1 n P1 St1) (D2 : Draws prog w A.in1.in1 i2 fp2 n P2 St2)
    (lz : z < S) (lTI : TI < S) (lTO : TO < S) (l1 : ∀ b ∈ fp1, b < S) (l2 : ∀ b ∈ fp2, b < S) (hn : n ≤ sizeLine) (res : Value) {h₁ : Heap}
    (hR : ∀ h' tk acc c as, (∀ b o, b ≠ S → b ≠ z → b ≠ TO → b ≠ i1 → b ≠ i2 → h₁.get? b = some o → h'.get? b = some o) → h'.get? S = some { cls := .type "list", dict := none, data := .seq acc c, slots := #[] } → as.length = n → ZG P1 P2 S h' as →
      acc.toList = as.map Value.ref → R (.ok (.ret res)) { s with heap := h', toks := tk }) :
    ∀ (k i : Nat) (h : Heap) (tk c : Nat) (acc : Array Value) (as : List Addr), n - i = k → i ≤ n → ZlSt h z TI TO i1 i2 S St1 St2 i → (∀ b o, b ≠ S → b ≠ z → b ≠ TO → b ≠ i1 → b ≠ i2 → h₁.get? b = some o → h.get? b = some o) →
      h.get? S = some { cls := .type "list", dict := none, data := .seq acc c, slots := #[] } → acc.toList = as.map Value.ref → as.length = i → ZG P1 P2 S h as →
      codeAny (model prog w) A (.builtin "list.extend.loop" ⟨[.ref S, .ref z, res], []⟩) R { s with heap := h, toks := tk } := by
  have ne : S ≠ z := Nat.ne_of_gt lz
  have nTO : S ≠ TO := Nat.ne_of_gt lTO
  have ni1 : S ≠ i1 := Nat.ne_of_gt (l1 _ Z.mem1)
  have ni2 : S ≠ i2 := Nat.ne_of_gt (l2 _ Z.mem2)
  have nTI : TI ≠ S := Nat.ne_of_lt lTI
  have up0 : ∀ {a : Addr}, S < a → a ≠ z ∧ a ≠ TO ∧ a ≠ i1 ∧ a ≠ i2 := fun h => ⟨Nat.ne_of_gt (Nat.lt_trans lz h), Nat.ne_of_gt (Nat.lt_trans lTO h), Nat.ne_of_gt (Nat.lt_trans (l1 _ Z.mem1) h), Nat.ne_of_gt (Nat.lt_trans (l2 _ Z.mem2) h)⟩
  intro k
  induction k with
  | zero =>
    intro i h tk c acc as hk hi hst hkeep hS hacc hal hG
    have hin : i = n := by omega
    subst hin
    refine codeAny_builtin F.entry_extend_loop ?_
    rw [Around.under_plainId F.plain_extend_loop _]
    show wpAny _ A.in1 (pyNext (.ref z) >>= _) _ _ _
    obtain ⟨hTI, st1, st2, hz⟩ := hst
    have fin : ∀ h' tk', (∀ c o, c ≠ z → c ≠ TO → c ≠ i1 → c ≠ i2 → h.get? c = some o → h'.get? c = some o) → R (.ok (.ret res)) { s with heap := h', toks := tk' } := fun h' tk' kp =>
      hR h' tk' acc c as (fun b o b1 b2 b3 b4 b5 e => kp b o b2 b3 b4 b5 (hkeep b o b1 b2 b3 b4 b5 e)) (kp S _ ne nTO ni1 ni2 hS) (by omega) ⟨hG.rise, hG.above, fun j a hj => by
        obtain ⟨x, y, e1, e2, e3⟩ := hG.pairs j a hj
        obtain ⟨q1, q2, q3, q4⟩ := up0 (hG.above a (List.mem_of_getElem? hj))
        exact ⟨x, y, e1, e2, kp a _ q1 q2 q3 q4 e3⟩⟩ hacc
    rcases hz with ⟨hz, a, b, hTO⟩ | ⟨T, f, oT, hz, hT, r1, r2, r3, r4⟩
    · exact wpAny_bind (wpAny_pyNext_zipD2_end (s := { s with heap := h, toks := tk }) Z D1 D2 hz hTI hTO st1 st2 (Nat.le_refl _) (Nat.le_refl _) (.inl rfl) fun h' tk' kp => wpAny_pure (fin h' tk' kp))
    · exact wpAny_bind (pyNext_zipH_end (s := { s with heap := h, toks := tk }) Z D1 D2 hz hT hTI st1 fun h' tk' kp => wpAny_pure (fin h' tk' fun c o c1 _ c3 c4 e => kp c o c1 c3 c4 e))
  | succ k ih =>
    intro i h tk c acc as hk hi hst hkeep hS hacc hal hG
    have hlt : i < n := by omega
    have hsz : acc.size = i := by rw [← Array.length_toList, hacc, List.length_map, hal]
    have hSl : S < h.objs.size := Heap.lt_size hS
    refine codeAny_builtin F.entry_extend_loop ?_
    rw [Around.under_plainId F.plain_extend_loop _]
    show wpAny _ A.in1 (pyNext (.ref z) >>= _) _ _ _
    obtain ⟨hTI, st1, st2, hz⟩ := hst
    obtain ⟨u1, u2, u3, u4⟩ := up0 hSl
    have fin : ∀ x y h' tk', P1 i x → P2 i y → IsTupOf2 h' TI (.ref i1) (.ref i2) → St1 (i + 1) h' → St2 (i + 1) h' → (∃ T f oT, IsZipHeld h' z TI TO T f ∧ h'.get? T = some oT ∧ T ≠ z ∧ T ≠ i1 ∧ T ≠ i2 ∧ T ≠ S) → IsTupOf2 h' h.objs.size x y →
        (∀ c o, c ≠ z → c ≠ TO → c ≠ i1 → c ≠ i2 → h.get? c = some o → h'.get? c = some o) →
        wpAny (model prog w) A.in1 (updateSeq S (·.push (Value.ref h.objs.size)) >>= fun _ => again (.builtin "list.extend.loop" ⟨[.ref S, .ref z, res], []⟩))
          (fun fin s' => match fin with | .done f => R (.ok f) s' | .again c' => c'.quiet = true ∧ codeAny (model prog w) A c' R s') (fun e s' => R (.error e) s') { s with heap := h', toks := tk' } := by
      intro x y h' tk' hx hy hTI' st1' st2' hz' ht kp
      have hS' := kp S _ ne nTO ni1 ni2 hS
      have up : ∀ b o, b ≠ S → h'.get? b = some o → (h'.update S (Obj.mapSeq (·.push (Value.ref h.objs.size)))).get? b = some o := fun b o hb e => (Heap.get?_update_other _ _ (Ne.symm hb)).trans e
      refine wpAny_bind ?_
      refine wpAny_updateSeq hS' rfl (wpAny_pure ⟨plainId_quiet F.plain_extend_loop _, ih (i + 1) _ tk' _ (acc.push (Value.ref h.objs.size)) (as ++ [h.objs.size]) (by omega) hlt ?_
        (fun b o b1 b2 b3 b4 b5 e => up b o b1 (kp b o b2 b3 b4 b5 (hkeep b o b1 b2 b3 b4 b5 e))) (Heap.get?_update_self _ hS' rfl) (by rw [Array.toList_push, hacc, List.map_append]; rfl) (by rw [List.length_append, hal]; rfl) ⟨?_, ?_, ?_⟩⟩) (by rw [hsz]; omega) (by show (acc.push (Value.ref h.objs.size)).size ≤ sizeLine + 1; rw [Array.size_push, hsz]; omega)
      · obtain ⟨T, f, oT, hz, hT, r1, r2, r3, r4⟩ := hz'
        exact ⟨up _ _ nTI hTI', D1.frame _ _ _ st1' (fun b hb o e => up b o (Nat.ne_of_lt (l1 b hb)) e), D2.frame _ _ _ st2' (fun b hb o e => up b o (Nat.ne_of_lt (l2 b hb)) e), .inr ⟨T, f, oT, up _ _ (Ne.symm ne) hz, up _ _ r4 hT, r1, r2, r3, r4⟩⟩
      · refine List.pairwise_append.mpr ⟨hG.rise, List.pairwise_singleton _ _, fun a ha b hb => ?_⟩
        rw [List.mem_singleton.mp hb]
        exact hG.there ha
      · intro a ha
        rcases List.mem_append.mp ha with ha | ha
        · exact hG.above a ha
        · rw [List.mem_singleton.mp ha]; exact hSl
      · intro j b hj
        rcases Nat.lt_trichotomy j as.length with h1 | h1 | h1
        · rw [List.getElem?_append_left h1] at hj
          obtain ⟨x', y', e1, e2, e3⟩ := hG.pairs j b hj
          have hb := hG.above b (List.mem_of_getElem? hj)
          obtain ⟨q1, q2, q3, q4⟩ := up0 hb
          exact ⟨x', y', e1, e2, up b _ (Nat.ne_of_gt hb) (kp b _ q1 q2 q3 q4 e3)⟩
        · subst h1
          have hb : h.objs.size = b := by simpa using hj
          subst hb
          exact ⟨x, y, by rw [hal]; exact hx, by rw [hal]; exact hy, up _ _ (Nat.ne_of_gt hSl) ht⟩
        · have hnone : (as ++ [h.objs.size])[j]? = none := List.getElem?_eq_none (by rw [List.length_append, List.length_singleton]; omega)
          rw [hnone] at hj; cases hj
    rcases hz with ⟨hz, a, b, hTO⟩ | ⟨T, f, oT, hz, hT, r1, r2, r3, r4⟩
    · refine wpAny_bind (wpAny_pyNext_zipD2_item (s := { s with heap := h, toks := tk }) Z D1 D2 hz hTI hTO st1 st2 hlt hlt fun x y h' tk' hx hy a1 a2 a3 a4 a5 a6 kp => ?_)
      exact fin x y h' tk' hx hy (kp _ _ Z.TIz Z.TITO Z.TIi1 Z.TIi2 hTI) a3 a4 ⟨h.objs.size, false, _, a1, a5, u1, u3, u4, Nat.ne_of_gt hSl⟩ a5 kp
    · refine wpAny_bind (pyNext_zipH_item (s := { s with heap := h, toks := tk }) Z D1 D2 hz hT hTI st1 st2 hlt hlt fun x y h' tk' hx hy a1 a3 a4 a5 a6 kp => ?_)
      exact fin x y h' tk' hx hy (kp _ _ Z.TIz Z.TIi1 Z.TIi2 hTI) a3 a4 ⟨T, true, oT, a1, kp _ _ r1 r2 r3 hT, r1, r2, r3, r4⟩ a5 fun c o c1 _ c3 c4 e => kp c o c1 c3 c4 e
theorem zip_no_len : typeLookup (.type "zip") "__len__" = pure none := am_miss_of_fast (by decide +kernel)
theorem zip_no_hint : typeLookup (.type "zip") "__length_hint__" = pure none := am_miss_of_fast (by decide +kernel)
theorem ZlSt.over {h h' : Heap} {S : Addr} (D1 : Draws prog w A i1 fp1 n1 P1 St1) (D2 : Draws prog w A i2 fp2 n2 P2 St2) (lz : z ≠ S) (lTI : TI ≠ S) (lTO : TO ≠ S) (l1 : ∀ b ∈ fp1, b ≠ S) (l2 : ∀ b ∈ fp2, b ≠ S) (st : ZlSt h z TI TO i1 i2 S St1 St2 i) (k : ∀ b o, b ≠ S → h.get? b = some o → h'.get? b = some o) : ZlSt h' z TI TO i1 i2 S St1 St2 i := by
  obtain ⟨hTI, st1, st2, hz⟩ := st
  refine ⟨k _ _ lTI hTI, D1.frame _ _ _ st1 (fun b hb o e => k b o (l1 b hb) e), D2.frame _ _ _ st2 (fun b hb o e => k b o (l2 b hb) e), ?_⟩
  rcases hz with ⟨hz, a, b, hTO⟩ | ⟨T, f, oT, hz, hT, r1, r2, r3, r4⟩
  · exact .inl ⟨k _ _ lz hz, a, b, k _ _ lTO hTO⟩
  · exact .inr ⟨T, f, oT, k _ _ lz hz, k _ _ r4 hT, r1, r2, r3, r4⟩
theorem ZlSt.typeIs {h : Heap} {S : Addr} {s : Shared} (e : s.heap = h) (st : ZlSt h z TI TO i1 i2 S St1 St2 i) : s.TypeIs (.ref z) "zip" := by
  subst e
  obtain ⟨_, _, _, hz⟩ := st
  rcases hz with ⟨hz, _⟩ | ⟨T, f, oT, hz, _⟩
  · exact ⟨_, hz, rfl⟩
  · exact ⟨_, hz, rfl⟩
end
section
variable {prog : Program} {w : World} {A : Around} {E : Value → Shared → Prop} {s : Shared} {z TI TO i1 i2 : Addr} {fp1 fp2 : List Addr} {n : Nat} {P1 P2 : Nat → Value → Prop} {St1 St2 : Nat → Heap → Prop}
theorem zl_extend {R : Result → Shared → Prop} (S : Addr) (Z : ZipSep2 z TI TO i1 i2 fp1 fp2) (D1 : Draws prog w A.in1.in1 i1 fp1 n P1 St1) (D2 : Draws prog w A.in1.in1 i2 fp2 n P2 St2)
    (lz : z < S) (lTI : TI < S) (lTO : TO < S) (l1 : ∀ b ∈ fp1, b < S) (l2 : ∀ b ∈ fp2, b < S) (hn : n ≤ sizeLine) (res : Value) (c₀ : Nat)
    (hz : IsZip s.heap z TI TO .none) (hTO : IsTupOf2 s.heap TO .none .none) (hTI : IsTupOf2 s.heap TI (.ref i1) (.ref i2)) (st1 : St1 0 s.heap) (st2 : St2 0 s.heap) (hS : s.heap.get? S = some { cls := .type "list", data := .seq #[] c₀ })
    (hR : ∀ h' tk acc c as, (∀ b o, b ≠ S → b ≠ z → b ≠ TO → b ≠ i1 → b ≠ i2 → s.heap.get? b = some o → h'.get? b = some o) → h'.get? S = some { cls := .type "list", dict := none, data := .seq acc c, slots := #[] } → as.length = n → ZG P1 P2 S h' as →
      acc.toList = as.map Value.ref → R (.ok (.ret res)) { s with heap := h', toks := tk }) :
    wpAny (model prog w) A.in1 (Builtin.List.listExtendWith (.ref S) (.ref z) res)
      (fun fin s' => match fin with | .done f => R (.ok f) s' | .again c' => c'.quiet = true ∧ codeAny (model prog w) A c' R s') (fun e s' => R (.error e) s') s := by
  have hT : s.TypeIs (.ref z) "zip" := ⟨_, hz, rfl⟩
  have hSz : S ≠ z := Nat.ne_of_gt lz
  unfold Builtin.List.listExtendWith
  refine wpAny_bind (wpAny_typeOf hT ?_)
  have h1 : Builtin.List.listSameRef (.ref S) (.ref z) = false := by simp [Builtin.List.listSameRef, hSz]
  have h2 : (Value.type "zip" == Value.type "list") = false := by decide
  have h3 : (Value.type "zip" == Value.type "tuple") = false := by decide
  simp only [h1, h2, h3, Bool.or_false, Bool.false_eq_true, if_false]
  refine wpAny_bind (wpAny_pyIter_zip hz ?_)
  refine wpAny_bind (wpAny_holding ?_)
  unfold Builtin.List.listLengthHint
  refine wpAny_bind (wpAny_specialOf hT zip_no_len ?_)
  show wpAny _ A.in1 (specialOf (Value.ref z) (Str.ofString "__length_hint__") >>= _) _ _ _
  refine wpAny_bind (wpAny_specialOf hT zip_no_hint ?_)
  refine wpAny_pure ?_
  show wpAny _ A.in1 (rule "list.extend.makes-room" >>= fun _ => Builtin.List.listTouch (.ref S) >>= fun _ =>
    again (.builtin "list.extend.loop" ⟨[.ref S, .ref z, res], []⟩)) _ _ _
  refine wpAny_bind (wpAny_rule ?_)
  refine wpAny_bind ?_
  show wpAny _ A.in1 (updateSeq S (·.push .none) >>= fun _ => updateSeq S (·.pop)) _ _ _
  refine wpAny_bind (wpAny_updateSeq hS rfl ?_)
  have hS₂ := Heap.get?_update_self (Obj.mapSeq (·.push Value.none)) hS rfl
  refine wpAny_updateSeq (hz := by seq_fits) hS₂ rfl ?_
  have hS₃ := Heap.get?_update_self (Obj.mapSeq (·.pop)) hS₂ rfl
  have oth : ∀ b o, b ≠ S → s.heap.get? b = some o → ((s.heap.update S (Obj.mapSeq (·.push Value.none))).update S (Obj.mapSeq (·.pop))).get? b = some o :=
    fun b o hb e => (Heap.get?_update_other _ _ (Ne.symm hb)).trans ((Heap.get?_update_other _ _ (Ne.symm hb)).trans e)
  exact wpAny_pure ⟨plainId_quiet F.plain_extend_loop _, zl_loop (s := s) (h₁ := s.heap) Z D1 D2 lz lTI lTO l1 l2 hn res hR n 0 _ s.toks _ #[] [] (Nat.sub_zero _) (Nat.zero_le _)
    (ZlSt.over D1 D2 (Nat.ne_of_lt lz) (Nat.ne_of_lt lTI) (Nat.ne_of_lt lTO) (fun b hb => Nat.ne_of_lt (l1 b hb)) (fun b hb => Nat.ne_of_lt (l2 b hb)) ⟨hTI, st1, st2, .inl ⟨hz, _, _, hTO⟩⟩ oth) (fun b o hb _ _ _ _ e => oth b o hb e) hS₃ rfl rfl
    ⟨List.Pairwise.nil, (fun _ ha => nomatch ha), (fun j a hj => by simp at hj)⟩⟩
theorem zl_init {R : Result → Shared → Prop} (S : Addr) (Z : ZipSep2 z TI TO i1 i2 fp1 fp2) (D1 : Draws prog w A.in1.in1 i1 fp1 n P1 St1) (D2 : Draws prog w A.in1.in1 i2 fp2 n P2 St2)
    (lz : z < S) (lTI : TI < S) (lTO : TO < S) (l1 : ∀ b ∈ fp1, b < S) (l2 : ∀ b ∈ fp2, b < S) (hn : n ≤ sizeLine)
    (hz : IsZip s.heap z TI TO .none) (hTO : IsTupOf2 s.heap TO .none .none) (hTI : IsTupOf2 s.heap TI (.ref i1) (.ref i2)) (st1 : St1 0 s.heap) (st2 : St2 0 s.heap) (hS : s.heap.get? S = some { cls := .type "list", data := .seq #[] })
    (hR : ∀ h' tk acc c as, (∀ b o, b ≠ S → b ≠ z → b ≠ TO → b ≠ i1 → b ≠ i2 → s.heap.get? b = some o → h'.get? b = some o) → h'.get? S = some { cls := .type "list", dict := none, data := .seq acc c, slots := #[] } → as.length = n → ZG P1 P2 S h' as →
      acc.toList = as.map Value.ref → R (.ok (.ret .none)) { s with heap := h', toks := tk }) :
    wpAny (model prog w) A.in1 (Builtin.«list.__init__» ⟨[.ref S, .ref z], []⟩)
      (fun fin s' => match fin with | .done f => R (.ok f) s' | .again c' => c'.quiet = true ∧ codeAny (model prog w) A c' R s') (fun e s' => R (.error e) s') s := by
  show wpAny _ A.in1 (do let old ← Builtin.List.listItems (.ref S); Builtin.List.listUpdate (.ref S) (fun _ => #[]); letGo old.toList.reverse; Builtin.List.listExtendWith (.ref S) (.ref z) .none) _ _ s
  refine wpAny_bind ?_
  unfold Builtin.List.listItems
  refine wpAny_bind (wpAny_seqItems hS rfl (wpAny_pure ?_))
  show wpAny _ A.in1 (updateSeq S (fun _ => #[]) >>= fun _ => letGo (#[] : Array Value).toList.reverse >>= fun _ => Builtin.List.listExtendWith (.ref S) (.ref z) .none) _ _ s
  refine wpAny_bind (wpAny_updateSeq hS rfl ?_)
  have hS₂ := Heap.get?_update_self (Obj.mapSeq (fun _ => (#[] : Array Value))) hS rfl
  have oth : ∀ b o, b ≠ S → s.heap.get? b = some o → (s.heap.update S (Obj.mapSeq (fun _ => (#[] : Array Value)))).get? b = some o :=
    fun b o hb e => (Heap.get?_update_other _ _ (Ne.symm hb)).trans e
  refine wpAny_bind (wpAny_letGo ?_)
  refine zl_extend S Z D1 D2 lz lTI lTO l1 l2 hn .none _ (oth _ _ (Nat.ne_of_lt lz) hz) (oth _ _ (Nat.ne_of_lt lTO) hTO) (oth _ _ (Nat.ne_of_lt lTI) hTI) (D1.frame _ _ _ st1 fun b hb o e => oth b o (Nat.ne_of_lt (l1 b hb)) e)
    (D2.frame _ _ _ st2 fun b hb o e => oth b o (Nat.ne_of_lt (l2 b hb)) e) hS₂ fun h' tk acc c as hk hS' hl hG hacc => ?_
  exact hR h' tk acc c as (fun b o b1 b2 b3 b4 b5 e => hk b o b1 b2 b3 b4 b5 (oth b o b1 e)) hS' hl hG hacc
/-- list(z), z a zip just made -/
theorem zl_call {Q : Value → Shared → Prop} (Z : ZipSep2 z TI TO i1 i2 fp1 fp2) (D1 : Draws prog w A.in1.in1.in1 i1 fp1 n P1 St1) (D2 : Draws prog w A.in1.in1.in1 i2 fp2 n P2 St2)
    (l1 : ∀ b ∈ fp1, b < s.heap.objs.size) (l2 : ∀ b ∈ fp2, b < s.heap.objs.size) (hn : n ≤ sizeLine)
    (hz : IsZip s.heap z TI TO .none) (hTO : IsTupOf2 s.heap TO .none .none) (hTI : IsTupOf2 s.heap TI (.ref i1) (.ref i2)) (st1 : St1 0 s.heap) (st2 : St2 0 s.heap)
    (hQ : ∀ h' tk acc c as, (∀ b o, b ≠ z → b ≠ TO → b ≠ i1 → b ≠ i2 → s.heap.get? b = some o → h'.get? b = some o) → h'.get? s.heap.objs.size = some { cls := .type "list", dict := none, data := .seq acc c, slots := #[] } → as.length = n → ZG P1 P2 s.heap.objs.size h' as →
      acc.toList = as.map Value.ref → Q (.ref s.heap.objs.size) { s with heap := h', toks := tk }) :
    wpAny (model prog w) A (call (.type "list") [.ref z]) Q E s := by
  refine callType_codes (Q₁ := fun obj s₁ => obj = .ref s.heap.objs.size ∧ s₁ = { s with heap := s.heap.push { cls := .type "list", data := .seq #[] } }) F.called_list (F.typeCall_list_1 _) F.entry_list_init
    (code_list_new _ ⟨rfl, rfl⟩) fun obj s₁ h₁ => ?_
  obtain ⟨rfl, rfl⟩ := h₁
  have hS : (s.heap.push { cls := .type "list", data := .seq #[] }).get? s.heap.objs.size = some { cls := .type "list", data := .seq #[] } := Heap.get?_push_size _ rfl
  refine ⟨⟨_, hS, rfl⟩, F.args_list_init_2 _ _, zl_init (A := A.in1) s.heap.objs.size Z D1 D2 (Heap.lt_size hz) (Heap.lt_size hTI) (Heap.lt_size hTO) l1 l2 hn (Heap.get?_push_of_some _ hz) (Heap.get?_push_of_some _ hTO) (Heap.get?_push_of_some _ hTI)
    (D1.frame _ _ _ st1 fun b _ o e => Heap.get?_push_of_some _ e) (D2.frame _ _ _ st2 fun b _ o e => Heap.get?_push_of_some _ e) hS fun h' tk acc c as hk hS' hl hG hacc => ?_⟩
  exact ⟨rfl, hQ h' tk acc c as (fun b o b2 b3 b4 b5 e => hk b o (Nat.ne_of_lt (Heap.lt_size e)) b2 b3 b4 b5 (Heap.get?_push_of_some _ e)) hS' hl hG hacc⟩
end


end My
namespace My
open PySem PySem.Spec PyProof.Rows L2 TL
/-! ### list(zip(a tuple, a list)) and for .. in zip(a tuple, a list), as rules -/
def putP : Hp → List Addr → List (V × V) → Hp
  | H, a :: as, p :: ps => putP (upd H a (.tup [p.1, p.2])) as ps
  | H, _, _ => H
theorem putP_off {b : Addr} : ∀ (as : List Addr) (ps : List (V × V)) (H : Hp), b ∉ as → putP H as ps b = H b
  | [], _, _, _ => rfl
  | _ :: _, [], _, _ => rfl
  | a :: as, p :: ps, H, h => by
    show putP (upd H a (.tup [p.1, p.2])) as ps b = H b
    rw [putP_off as ps _ (fun z => h (List.mem_cons_of_mem _ z)), upd_ne (fun z => h (by rw [z]; exact List.mem_cons_self))]
theorem putP_at : ∀ (as : List Addr) (ps : List (V × V)) (H : Hp), as.length = ps.length → as.Nodup → ∀ (j : Nat) (a : Addr) (p : V × V), as[j]? = some a → ps[j]? = some p → putP H as ps a = some (.tup [p.1, p.2])
  | [], _, _, _, _, j, a, p, h, _ => by simp at h
  | _ :: _, [], _, h, _, _, _, _, _, _ => by cases h
  | a :: as, p :: ps, H, h, hn, 0, b, q, h1, h2 => by
    have hn' := List.nodup_cons.mp hn
    cases h1
    cases h2
    show putP (upd H a (.tup [p.1, p.2])) as ps a = _
    rw [putP_off as ps _ hn'.1, upd_same]
  | a :: as, p :: ps, H, h, hn, j + 1, b, q, h1, h2 => by
    have hn' := List.nodup_cons.mp hn
    exact putP_at as ps (upd H a (.tup [p.1, p.2])) (Nat.succ.inj h) hn'.2 j b q h1 h2
section
variable {X : Cx}
theorem zip_laid {pins : List (Addr × Obj)} {σ : L2.St} {H : Hp} {s : Shared} {h' : Heap} {tk : Nat} {xs ys : List V} {its its2 : List Value} {acc : Array Value} {c : Nat} {as : List Addr} {S : Addr} (I : Inv X pins σ H s) (rv : Vals xs its) (rv2 : Vals ys its2) (hl : xs.length = ys.length)
    (hz : xs.length ≤ sizeLine) (hS0 : s.heap.objs.size ≤ S) (hk : ∀ b o, s.heap.get? b = some o → h'.get? b = some o) (hS : h'.get? S = some { cls := .type "list", dict := none, data := .seq acc c, slots := #[] }) (hla : as.length = xs.length)
    (hG : ZG (fun i v => its.toArray[i]? = some v) (fun i v => its2.toArray[i]? = some v) S h' as) (hacc : acc.toList = as.map Value.ref) :
    ∃ H' : Hp, Same H H' ∧ H' S = some (.lst (as.map V.ref)) ∧ (∀ (i : Nat) (p : Addr) (x y : V), as[i]? = some p → xs[i]? = some x → ys[i]? = some y → H' p = some (.tup [x, y])) ∧ Inv X pins σ H' { s with heap := h', toks := tk } := by
  have hSn : S ∉ as := fun z => Nat.lt_irrefl _ (hG.above _ z)
  have nd : as.Nodup := List.Pairwise.imp (fun {a b} (h : a < b) => Nat.ne_of_lt h) hG.rise
  have new : ∀ t ∈ as, H t = none := fun t ht => I.hok.fresh (Nat.le_trans hS0 (Nat.le_of_lt (hG.above t ht)))
  have newS : H S = none := I.hok.fresh hS0
  have lz : as.length = (xs.zip ys).length := by rw [List.length_zip]; omega
  have atP := putP_at as (xs.zip ys) (upd H S (.lst (as.map V.ref))) lz nd
  have off : ∀ b, b ∉ as → b ≠ S → putP (upd H S (.lst (as.map V.ref))) as (xs.zip ys) b = H b := fun b h1 h2 => by rw [putP_off as _ _ h1, upd_ne h2]
  have low : ∀ b o, s.heap.get? b = some o → b ∉ as ∧ b ≠ S := fun b o e => ⟨fun z => absurd (Heap.lt_size e) (Nat.not_lt.mpr (Nat.le_trans hS0 (Nat.le_of_lt (hG.above b z)))), Nat.ne_of_lt (Nat.lt_of_lt_of_le (Heap.lt_size e) hS0)⟩
  have kp : ∀ b u, H b = some u → (putP (upd H S (.lst (as.map V.ref))) as (xs.zip ys)) b = some u := fun b u e => by
    rw [off b (fun z => by rw [new b z] at e; cases e) (fun z => by rw [z, newS] at e; cases e)]
    exact e
  have eS : putP (upd H S (.lst (as.map V.ref))) as (xs.zip ys) S = some (.lst (as.map V.ref)) := by rw [putP_off as _ _ hSn, upd_same]
  refine ⟨putP (upd H S (.lst (as.map V.ref))) as (xs.zip ys), kp, eS, fun i p x y e1 e2 e3 => atP i p (x, y) e1 (List.getElem?_zip_eq_some.mpr ⟨e2, e3⟩), ?_⟩
  refine I.call' (ch := []) rfl ⟨fun b o q _ _ _ => hk b o q, fun b o q _ _ _ => ⟨o.slots, hk b o q⟩, fun b o q n _ => ?_, fun b o q _ => ⟨o, hk b o q⟩, fun b xs q => kp b _ q, fun b o u q => kp b _ q, fun b ps q => ⟨#[], by rw [kp b _ q]; simp⟩⟩ (fun b u q => ?_) I.bare fun b z => by simp at z
  · obtain ⟨z1, z2⟩ := low b o q
    rw [off b z1 z2]
    exact n
  · by_cases hb : b ∈ as
    · obtain ⟨j, hj⟩ := List.mem_iff_getElem?.mp hb
      have jl : j < as.length := (List.getElem?_eq_some_iff.mp hj).1
      have hx : xs[j]? = some xs[j] := List.getElem?_eq_getElem (by omega)
      have hy : ys[j]? = some ys[j] := List.getElem?_eq_getElem (by omega)
      have e3 := atP j b (xs[j], ys[j]) hj (List.getElem?_zip_eq_some.mpr ⟨hx, hy⟩)
      rw [e3] at q
      cases q
      obtain ⟨u, v, f1, f2, f3⟩ := hG.pairs j b hj
      obtain ⟨u', g1, r1⟩ := rv.get hx
      obtain ⟨v', g2, r2⟩ := rv2.get hy
      have eu : u' = u := by
        have : its.toArray[j]? = some u' := by simpa using g1
        rw [this] at f1
        exact Option.some.inj f1
      have ev : v' = v := by
        have : its2.toArray[j]? = some v' := by simpa using g2
        rw [this] at f2
        exact Option.some.inj f2
      subst eu
      subst ev
      exact ⟨by show 2 ≤ sizeLine; decide, [u', v'], .cons r1 (.cons r2 .nil), ⟨_, f3, rfl, _, rfl⟩⟩
    · by_cases hb2 : b = S
      · rw [hb2] at q ⊢
        rw [eS] at q
        cases q
        refine ⟨by rw [List.length_map]; omega, acc.toList, c, by rw [hacc]; exact LiI.vals_refs as, ?_⟩
        rw [Array.toArray_toList]
        exact hS
      · rw [off b hb hb2] at q
        exact (I.hok b u q).stay (fun d v _ y => hk d v y) (fun d y => kp d _ y) fun d xs y => kp d _ y
def rLZip (K : PySem.W.Frag) (vs : List V) (H1 : Hp) (Q : VK) : Prop := ∃ (a b : Addr) (xs ys : List V), vs = [.ref a, .ref b] ∧ SqT K H1 a xs ∧ SqL K H1 b ys ∧ xs.length = ys.length ∧ xs.length ≤ 100 ∧
      ∀ (l : Addr) (ps : List Addr) H2, Same H1 H2 → H2 l = some (.lst (ps.map V.ref)) → ps.length = xs.length → (∀ (i : Nat) (p : Addr) (x y : V), ps[i]? = some p → xs[i]? = some x → ys[i]? = some y → H2 p = some (.tup [x, y])) → Q (.ref l) H2
theorem fp_below {N a : Addr} (h : a < N) : ∀ b ∈ [a], b < N := fun b hb => by rw [List.mem_singleton.mp hb]; exact h
theorem pe_listzip {e e2 : Expr} {t : TA} {p q pos pos2 : Pos} (hc : X.calm = true) (hl : Gl X "list") (hm : X.mg "list" = none) (hg : Gl X "zip") (hm2 : X.mg "zip" = none) (ha : PA X [e, e2] t)
    (hs : starEach [.Call (.Name "zip" q) [e, e2] [] pos2] X.env = (false, eval (.Call (.Name "zip" q) [e, e2] [] pos2) X.env) :: starEach [] X.env := by rfl)
    (hs2 : starEach [e, e2] X.env = (false, eval e X.env) :: starEach [e2] X.env := by rfl) (hpl : (backTo pos2 (starEach [e2] X.env)).any (·.1) = false := by rfl) :
    PE X (.Call (.Name "list" p) [.Call (.Name "zip" q) [e, e2] [] pos2] [] pos) (fun σ H Q => t σ H fun vs H1 => rLZip X.K vs H1 Q) := by
  refine ⟨fun pins s σ H Q I h => ?_⟩
  refine wpAny_Call_Name_kw (ld_blt I hl hm boot_list ?_)
  refine PyProof.Rows.callWith_type1 ?_ hs rfl
  rw [hs]
  show wpAny _ _ (spliced ((false, eval (.Call (.Name "zip" q) [e, e2] [] pos2) X.env) :: backTo pos (starEach [] X.env))) _ _ s
  refine Calls.spliced_cons ?_
  refine Call_ (ld_blt I hg hm2 PyProof.Rows.boot_zip (PyProof.Rows.callWith_type1 (thn (ha.run pos2 pins s σ H _ I h) fun us s1 ⟨vs, H1, I1, r1, q1⟩ => ?_) hs2 hpl))
  obtain ⟨a, b, xs, ys, ex, hqx, hqy, hlen, h100, q1⟩ := q1
  subst ex
  cases r1 with
  | cons r rr =>
    cases rr with
    | cons r' rr =>
      cases rr
      cases r
      cases r'
      obtain ⟨its, rv, p1, _⟩ := I1.tuple hqx
      obtain ⟨its2, rv2, p2, _⟩ := I1.list hqy
      have la : a < s1.heap.objs.size := let ⟨_, e, _⟩ := p1; Heap.lt_size e
      have lb : b < s1.heap.objs.size := p2.lt
      refine zip_begins2 (begins_tuple a its.toArray) (begins_list b its2.toArray) p1 p2.isList fun h' hz hTI hTO g1 g2 hsz hk => ?_
      refine Calls.spliced_nil ?_
      have hd := I1.ok.hd hc
      have n1 : its.toArray.size = xs.length := by rw [List.size_toArray, ← rv.length]
      have n2 : its2.toArray.size = xs.length := by rw [List.size_toArray, ← rv2.length, hlen]
      have D1 : Draws X.prog X.w X.A.in1.in1.in1 s1.heap.objs.size [s1.heap.objs.size, a] xs.length (fun i v => its.toArray[i]? = some v) (fun i h => h.IsTupleIter s1.heap.objs.size a i ∧ h.IsTuple a its.toArray) := n1 ▸ Draws.tuple (A := X.A.in1.in1.in1) hd s1.heap.objs.size a (Nat.ne_of_lt la) its.toArray
      have D2 : Draws X.prog X.w X.A.in1.in1.in1 (s1.heap.objs.size + 1) [s1.heap.objs.size + 1, b] xs.length (fun i v => its2.toArray[i]? = some v) (fun i h => h.IsListIter (s1.heap.objs.size + 1) b i ∧ h.IsList b its2.toArray) := n2 ▸ Draws.list (A := X.A.in1.in1.in1) hd (s1.heap.objs.size + 1) b (Nat.ne_of_lt (Nat.lt_succ_of_lt lb)) its2.toArray
      have Z := zip_sep2 (N := s1.heap.objs.size) (fp_below la) (fp_below lb)
      have big : ∀ {c k : Nat}, c < s1.heap.objs.size + 2 → c < h'.objs.size := fun {c k} e => by rw [hsz]; omega
      have low1 : ∀ c ∈ [s1.heap.objs.size, a], c < h'.objs.size := fun c hc => by
        rcases List.mem_cons.mp hc with e | e
        · rw [e, hsz]; exact Nat.lt_add_of_pos_right (by decide)
        · rw [List.mem_singleton.mp e, hsz]; exact Nat.lt_of_lt_of_le la (Nat.le_add_right _ _)
      have low2 : ∀ c ∈ [s1.heap.objs.size + 1, b], c < h'.objs.size := fun c hc => by
        rcases List.mem_cons.mp hc with e | e
        · rw [e, hsz]; exact Nat.add_lt_add_left (by decide) _
        · rw [List.mem_singleton.mp e, hsz]; exact Nat.lt_of_lt_of_le lb (Nat.le_add_right _ _)
      refine zl_call (s := { s1 with heap := h' }) Z D1 D2 low1 low2 (Nat.le_trans h100 (by decide)) hz hTO hTI ⟨⟨_, g1, rfl, rfl⟩, Heap.IsTuple.at p1 fun o e => hk a o e⟩ ⟨⟨_, g2, rfl, rfl⟩, p2.isList.at fun o e => hk b o e⟩ fun h2 tk acc c as hk2 hS hla hG hacc => ?_
      have hk3 : ∀ c o, s1.heap.get? c = some o → h2.get? c = some o := fun c o e => by
        have lt := Heap.lt_size e
        exact hk2 c o (Nat.ne_of_lt (Nat.lt_of_lt_of_le lt (Nat.le_add_right _ _))) (Nat.ne_of_lt (Nat.lt_of_lt_of_le lt (Nat.le_add_right _ _))) (Nat.ne_of_lt lt) (Nat.ne_of_lt (Nat.lt_of_lt_of_le lt (Nat.le_add_right _ _))) (hk c o e)
      obtain ⟨H', sm, hl', tup, J⟩ := zip_laid (tk := tk) (S := h'.objs.size) I1 rv rv2 hlen (Nat.le_trans h100 (by decide)) (by rw [hsz]; exact Nat.le_add_right _ _) hk3 hS hla hG hacc
      exact ⟨.ref _, H', J, rfl, q1 _ as H' sm hl' hla tup⟩
end
section
/-- the tuple at a and the list at b as they stand at each turn, the items in new pairs -/
def ItzM (K : PySem.W.Frag) (a b : Addr) : It :=
  ⟨fun i H => ∃ (xs ys : List V) (x y : V), SqT K H a xs ∧ SqL K H b ys ∧ xs[i]? = some x ∧ ys[i]? = some y ∧ xs.length = ys.length,
    fun i H v H' => ∃ T x y, v = .ref T ∧ H T = none ∧ H' = upd H T (.tup [x, y]) ∧ (∀ xs, SqT K H a xs → xs[i]? = some x) ∧ ∀ ys, SqL K H b ys → ys[i]? = some y,
    fun i H => ∃ xs ys : List V, SqT K H a xs ∧ SqL K H b ys ∧ xs.length = i ∧ ys.length = i⟩
theorem turn_zipM {P : Program} {w : World} {K : PySem.W.Frag} {elts : List Expr} {kk : Nat} {tpos : Pos} {a b z TI TO i1 i2 : Addr} (D : ZipSep2 z TI TO i1 i2 [i1, a] [i2, b]) :
    Turn P w K (.Tuple elts kk tpos) (ItzM K a b) [z, TI, TO, i1, i2] z (fun i h => IsZip h z TI TO .none ∧ IsTupOf2 h TI (.ref i1) (.ref i2) ∧ (∃ x y, IsTupOf2 h TO x y) ∧ h.IsTupleIter i1 a i ∧ h.IsListIter i2 b i) where
  mem := by simp
  obj := fun i h st c hc => by
    obtain ⟨hz, hTI, ⟨x, y, hTO⟩, ⟨o1, e1, _, d1⟩, ⟨o2, e2, _, d2⟩⟩ := st
    have e' : c = z ∨ c = TI ∨ c = TO ∨ c = i1 ∨ c = i2 := by simpa using hc
    rcases e' with q | q | q | q | q
    · rw [q]; exact ⟨_, hz, fun v q => nomatch q⟩
    · rw [q]; exact ⟨_, hTI, fun v q => nomatch q⟩
    · rw [q]; exact ⟨_, hTO, fun v q => nomatch q⟩
    · rw [q]; exact ⟨o1, e1, fun v q => by rw [d1] at q; cases q⟩
    · rw [q]; exact ⟨o2, e2, fun v q => by rw [d2] at q; cases q⟩
  keep := fun i h h' st k => by
    obtain ⟨hz, hTI, ⟨x, y, hTO⟩, h1, h2⟩ := st
    exact ⟨k z (by simp) _ hz, k TI (by simp) _ hTI, ⟨x, y, k TO (by simp) _ hTO⟩, h1.at fun o q => k i1 (by simp) o q, h2.at fun o q => k i2 (by simp) o q⟩
  item := by
    intro X hP hw hK hc i pins s σ H E I hf st hg
    subst hP hw hK
    obtain ⟨hz, hTI, ⟨x0, y0, hTO⟩, h1, h2⟩ := st
    obtain ⟨xs, ys, x, y, hqx, hqy, hx, hy, hlen⟩ := hg
    obtain ⟨its, rv, p, _⟩ := I.tuple hqx
    obtain ⟨its2, rv2, p2, _⟩ := I.list hqy
    obtain ⟨u, hu, ru⟩ := rv.get hx
    obtain ⟨u2, hu2, ru2⟩ := rv2.get hy
    have hzl : z < s.heap.objs.size := Heap.lt_size hz
    have hd := I.ok.hd hc
    have n1 : i < its.toArray.size := by rw [List.size_toArray]; exact (List.getElem?_eq_some_iff.mp hu).1
    have n2 : i < its2.toArray.size := by rw [List.size_toArray]; exact (List.getElem?_eq_some_iff.mp hu2).1
    have na : a ≠ i1 := fun e => D.sep1_2 (by
      exfalso
      obtain ⟨o1, e1, c1, _⟩ := h1
      obtain ⟨o2, e2, c2, _⟩ := id p
      rw [e, e1] at e2
      cases e2
      rw [c1] at c2
      exact absurd c2 (by decide))
    have nb : b ≠ i2 := fun e => by
      obtain ⟨o1, e1, c1, _⟩ := h2
      obtain ⟨o2, e2, c2, _⟩ := id p2.isList
      rw [e, e1] at e2
      cases e2
      rw [c1] at c2
      exact absurd c2 (by decide)
    refine wpAny_pyNext_zipD2_item D (Draws.tuple (A := X.A.in1) hd i1 a na its.toArray) (Draws.list (A := X.A.in1) hd i2 b nb its2.toArray) hz hTI hTO ⟨h1, p⟩ ⟨h2, p2.isList⟩ n1 n2 fun v1 v2 h' tk f1 f2 z' TO' s1' s2' hT hsz hk => ?_
    have e1 : v1 = u := by
      have e : its.toArray[i]? = some u := by simpa using hu
      rw [e] at f1
      exact (Option.some.inj f1).symm
    have e2 : v2 = u2 := by
      have e : its2.toArray[i]? = some u2 := by simpa using hu2
      rw [e] at f2
      exact (Option.some.inj f2).symm
    subst e1
    subst e2
    obtain ⟨h1', _⟩ := s1'
    obtain ⟨h2', _⟩ := s2'
    refine ⟨_, rfl, wpAny_letOwnedTupleGo_zip (s := { s with heap := h', toks := tk }) z' fun h'' z'' sb => ?_⟩
    have hT2 : h''.get? s.heap.objs.size = some { cls := .type "tuple", data := .seq #[v1, v2] } := (sb.2 _ (Nat.ne_of_gt hzl)).trans hT
    have new : ObjOk X.prog X.w (upd H s.heap.objs.size (.tup [x, y])) h'' s.heap.objs.size (.tup [x, y]) :=
      ⟨by show 2 ≤ sizeLine; decide, [v1, v2], .cons ru (.cons ru2 .nil), ⟨_, hT2, rfl, _, rfl⟩⟩
    have I1 : Inv X pins σ (upd H s.heap.objs.size (.tup [x, y])) { s with heap := h'', toks := tk } :=
      I.turnedNew (t' := tk) (ch := [z, TI, TO, i1, i2]) (fun c o hb q => (sb.2 c (fun q' => hb (by simp [q']))).trans (hk c o (fun q' => hb (by simp [q'])) (fun q' => hb (by simp [q'])) (fun q' => hb (by simp [q'])) (fun q' => hb (by simp [q'])) q)) hf (Nat.le_refl _) new
    refine ⟨.ref s.heap.objs.size, _, I1, rfl, ⟨_, x, y, rfl, I.hok.fresh (Nat.le_refl _), rfl, fun l hl => by rw [I.tuple_inj hl hqx]; exact hx, fun l hl => by rw [I.list_inj hl hqy]; exact hy⟩, ⟨z'', ?_, ⟨v1, v2, ?_⟩, ?_, ?_⟩, fun c hcm => ?_⟩
    · exact (sb.2 _ D.TIz).trans (hk _ _ D.TIz D.TITO D.TIi1 D.TIi2 hTI)
    · exact (sb.2 _ D.TOz).trans TO'
    · exact h1'.at fun o q => (sb.2 _ (Ne.symm D.zi1)).trans q
    · exact h2'.at fun o q => (sb.2 _ (Ne.symm D.zi2)).trans q
    · have hlt : c < s.heap.objs.size := by
        have e' : c = z ∨ c = TI ∨ c = TO ∨ c = i1 ∨ c = i2 := by simpa using hcm
        rcases e' with q | q | q | q | q
        · rw [q]; exact hzl
        · rw [q]; exact Heap.lt_size hTI
        · rw [q]; exact Heap.lt_size hTO
        · rw [q]; obtain ⟨_, e1, _⟩ := h1; exact Heap.lt_size e1
        · rw [q]; obtain ⟨_, e2, _⟩ := h2; exact Heap.lt_size e2
      rw [upd_ne (Nat.ne_of_lt hlt)]
      exact (hf c hcm).1
  done := by
    intro X hP hw hK hc i pins s σ H E I hf st hg
    subst hP hw hK
    obtain ⟨hz, hTI, ⟨x0, y0, hTO⟩, h1, h2⟩ := st
    obtain ⟨xs, ys, hqx, hqy, e1, e2⟩ := hg
    obtain ⟨its, rv, p, _⟩ := I.tuple hqx
    obtain ⟨its2, rv2, p2, _⟩ := I.list hqy
    have l1 := rv.length
    have l2 := rv2.length
    have hd := I.ok.hd hc
    have na : a ≠ i1 := fun e => by
      obtain ⟨o1, e1, c1, _⟩ := h1
      obtain ⟨o2, e2, c2, _⟩ := id p
      rw [e, e1] at e2
      cases e2
      rw [c1] at c2
      exact absurd c2 (by decide)
    have nb : b ≠ i2 := fun e => by
      obtain ⟨o1, e1, c1, _⟩ := h2
      obtain ⟨o2, e2, c2, _⟩ := id p2.isList
      rw [e, e1] at e2
      cases e2
      rw [c1] at c2
      exact absurd c2 (by decide)
    have q1 : i = its.toArray.size := by rw [List.size_toArray]; omega
    have q2 : i = its2.toArray.size := by rw [List.size_toArray]; omega
    exact wpAny_pyNext_zipD2_end D (Draws.tuple (A := X.A.in1) hd i1 a na its.toArray) (Draws.list (A := X.A.in1) hd i2 b nb its2.toArray) hz hTI hTO ⟨h1, p⟩ ⟨h2, p2.isList⟩ (Nat.le_of_eq q1) (Nat.le_of_eq q2) (.inl q1) fun h' tk hk => ⟨rfl, I.turnedL (t' := tk) (ch := [z, TI, TO, i1, i2]) (fun c o hb q =>
      hk c o (fun q' => hb (by simp [q'])) (fun q' => hb (by simp [q'])) (fun q' => hb (by simp [q'])) (fun q' => hb (by simp [q'])) q) hf⟩
  self := fun A i s Q E st h => wpAny_pyIter_zip st.1 h
def iZipM (K : PySem.W.Frag) (ta : TA) : TI := fun σ H R => ta σ H fun vs H1 => ∃ a b xs ys, vs = [.ref a, .ref b] ∧ SqT K H1 a xs ∧ SqL K H1 b ys ∧ R (ItzM K a b) H1
theorem pi_zipM {X : Cx} {e e2 : Expr} {ta : TA} {p pos tpos : Pos} {elts : List Expr} {kk : Nat} (hg : Gl X "zip") (hm : X.mg "zip" = none) (ha : PA X [e, e2] ta)
    (hs : starEach [e, e2] X.env = (false, eval e X.env) :: starEach [e2] X.env := by rfl) (hpl : (backTo pos (starEach [e2] X.env)).any (·.1) = false := by rfl) :
    PI X (.Tuple elts kk tpos) (.Call (.Name "zip" p) [e, e2] [] pos) (iZipM X.K ta) := by
  refine ⟨fun pins s σ H R I h => ?_⟩
  refine Call_ (ld_blt I hg hm PyProof.Rows.boot_zip (PyProof.Rows.callWith_type1 (thn (ha.run pos pins s σ H _ I h) fun us s1 ⟨vs, H1, I1, r1, q1⟩ => ?_) hs hpl))
  obtain ⟨a, b, xs, ys, ex, hqx, hqy, q⟩ := q1
  subst ex
  cases r1 with
  | cons r rr =>
    cases rr with
    | cons r' rr =>
      cases rr
      cases r
      cases r'
      have fresh5 : ∀ c, c ∈ [s1.heap.objs.size + 4, s1.heap.objs.size + 2, s1.heap.objs.size + 3, s1.heap.objs.size, s1.heap.objs.size + 1] → FpOk X pins H1 c := fun c hcm => by
        have e' : c = s1.heap.objs.size + 4 ∨ c = s1.heap.objs.size + 2 ∨ c = s1.heap.objs.size + 3 ∨ c = s1.heap.objs.size ∨ c = s1.heap.objs.size + 1 := by simpa using hcm
        have hle : s1.heap.objs.size ≤ c := by
          rcases e' with z | z | z | z | z
          · rw [z]; exact Nat.le_add_right _ _
          · rw [z]; exact Nat.le_add_right _ _
          · rw [z]; exact Nat.le_add_right _ _
          · rw [z]; exact Nat.le_refl _
          · rw [z]; exact Nat.le_add_right _ _
        exact I1.fpOk hle (I1.hok.fresh hle)
      obtain ⟨its, rv, p1, _⟩ := I1.tuple hqx
      obtain ⟨its2, rv2, p2, _⟩ := I1.list hqy
      have la : a < s1.heap.objs.size := let ⟨_, e, _⟩ := p1; Heap.lt_size e
      refine zip_begins2 (begins_tuple a its.toArray) (begins_list b its2.toArray) p1 p2.isList fun h' hz hTI hTO g1 g2 hsz hk => wpAny_pyIter_zip hz ?_
      have I2 : Inv X pins σ H1 { s1 with heap := h' } := I1.kept (t' := s1.toks) hk
      exact ⟨s1.heap.objs.size + 4, [s1.heap.objs.size + 4, s1.heap.objs.size + 2, s1.heap.objs.size + 3, s1.heap.objs.size, s1.heap.objs.size + 1], _, _, H1, rfl, I2, turn_zipM (zip_sep2 (fp_below la) (fp_below p2.lt)), ⟨hz, hTI, ⟨_, _, hTO⟩, ⟨_, g1, rfl, rfl⟩, ⟨_, g2, rfl, rfl⟩⟩, fresh5, q⟩
/-- a loop over zip of a tuple and a list of one length -/
theorem for_zipM {K : PySem.W.Frag} {a b : Addr} {xs ys : List V} {g : TG} {tb : TS} {D : Ends} {σ : L2.St} {H : Hp} (hl : xs.length = ys.length) (Pv : Nat → L2.St → Hp → Prop) (h0 : Pv 0 σ H) (hq : ∀ i σ H, Pv i σ H → SqT K H a xs ∧ SqL K H b ys)
    (hs : ∀ (i : Nat) (x y : V) (T : Addr) (σ : L2.St) (H : Hp), xs[i]? = some x → ys[i]? = some y → Pv i σ H → H T = none → g (.ref T) σ (upd H T (.tup [x, y])) fun σ2 H2 => tb { D with nx := Pv (i + 1), ct := Pv (i + 1), bk := D.nx } σ2 H2) (hd : ∀ σ H, Pv xs.length σ H → D.nx σ H) :
    ∃ W : Nat → Nat → L2.St → Hp → Prop, (∃ m, W 0 m σ H) ∧ ∀ i m σ H, W i m σ H →
      ((ItzM K a b).stop i H ∧ D.nx σ H) ∨ ((ItzM K a b).go i H ∧ ∃ N : L2.St → Hp → Prop, (∀ σ' H', N σ' H' → ∃ m', m' < m ∧ W (i + 1) m' σ' H') ∧ ∀ v H', (ItzM K a b).yld i H v H' → g v σ H' fun σ2 H2 => tb { D with nx := N, ct := N, bk := D.nx } σ2 H2) := by
  refine ⟨fun i m σ H => m = xs.length - i ∧ i ≤ xs.length ∧ Pv i σ H, ⟨xs.length, rfl, Nat.zero_le _, h0⟩, ?_⟩
  rintro i m σ H ⟨rfl, hi, p⟩
  obtain ⟨qx, qy⟩ := hq i σ H p
  by_cases hlt : i < xs.length
  · have hx : xs[i]? = some xs[i] := List.getElem?_eq_getElem hlt
    have hlt2 : i < ys.length := by omega
    have hy : ys[i]? = some ys[i] := List.getElem?_eq_getElem hlt2
    refine .inr ⟨⟨xs, ys, _, _, qx, qy, hx, hy, hl⟩, Pv (i + 1), fun σ' H' p' => ⟨xs.length - (i + 1), by omega, rfl, hlt, p'⟩, fun v H' y => ?_⟩
    obtain ⟨T, x', y', rfl, hT, rfl, f1, f2⟩ := y
    exact hs i x' y' T σ H (f1 xs qx) (f2 ys qy) p hT
  · have e : i = xs.length := by omega
    subst e
    exact .inl ⟨⟨xs, ys, qx, qy, rfl, hl.symm⟩, hd σ H p⟩
end


end My
namespace My
open PySem PySem.Spec PyProof.Rows L2 TL
/-! ### tuple(zip(a, b)) of two tuples of one length -/
section
variable {prog : Program} {w : World} {A : Around} {E : Value → Shared → Prop} {s : Shared} {z TI TO i1 i2 : Addr} {fp1 fp2 : List Addr} {n : Nat} {P1 P2 : Nat → Value → Prop} {St1 St2 : Nat → Heap → Prop}
theorem zl_collect {Q : List Value → Shared → Prop} (Z : ZipSep2 z TI TO i1 i2 fp1 fp2) (D1 : Draws prog w A.in1.in1 i1 fp1 n P1 St1) (D2 : Draws prog w A.in1.in1 i2 fp2 n P2 St2)
    (l1 : ∀ b ∈ fp1, b < s.heap.objs.size) (l2 : ∀ b ∈ fp2, b < s.heap.objs.size) (hn : n ≤ sizeLine)
    (hz : IsZip s.heap z TI TO .none) (hTO : IsTupOf2 s.heap TO .none .none) (hTI : IsTupOf2 s.heap TI (.ref i1) (.ref i2)) (st1 : St1 0 s.heap) (st2 : St2 0 s.heap)
    (hQ : ∀ h' tk acc c as, (∀ b o, b ≠ z → b ≠ TO → b ≠ i1 → b ≠ i2 → s.heap.get? b = some o → h'.get? b = some o) → h'.get? s.heap.objs.size = some { cls := .type "list", dict := none, data := .seq acc c, slots := #[] } → as.length = n → ZG P1 P2 s.heap.objs.size h' as → acc.toList = as.map Value.ref → Q (as.map Value.ref) { s with heap := h', toks := tk }) :
    wpAny (model prog w) A (collect (.ref z)) Q E s := by
  unfold collect
  refine wpAny_bind (wpAny_runValue (codeAny_builtin entry_proto_collect' ?_))
  rw [Around.under_plainId PySem.F.plain_proto_collect _]
  show wpAny _ A.in1 (newList [] >>= fun l => again (.builtin "list.__iadd__" ⟨[l, .ref z], []⟩)) _ _ s
  refine wpAny_bind (wpAny_newObj_type ?_)
  refine wpAny_pure ⟨plainId_quiet PySem.F.plain_list_iadd _, codeAny_builtin F.entry_list_iadd ?_⟩
  rw [Around.under_plainId PySem.F.plain_list_iadd _]
  have new : (s.heap.push { cls := .type "list", data := .seq ([] : List Value).toArray }).get? s.heap.objs.size = some { cls := .type "list", data := .seq #[] } := Heap.get?_push_size _ rfl
  have old : ∀ b o, s.heap.get? b = some o → (s.heap.push { cls := .type "list", data := .seq ([] : List Value).toArray }).get? b = some o := fun b o e => Heap.get?_push_of_some _ e
  show wpAny _ A.in1 (Builtin.List.listExtendWith (.ref s.heap.objs.size) (.ref z) (.ref s.heap.objs.size)) _ _ _
  have key := zl_extend (A := A) (s := { s with heap := s.heap.push { cls := .type "list", data := .seq ([] : List Value).toArray } })
    (R := fun (q : Result) (s' : Shared) => ∃ h' tk acc c as, q = .ok (.ret (.ref s.heap.objs.size)) ∧ s' = { s with heap := h', toks := tk } ∧ (∀ b o, b ≠ z → b ≠ TO → b ≠ i1 → b ≠ i2 → s.heap.get? b = some o → h'.get? b = some o) ∧
      h'.get? s.heap.objs.size = some { cls := .type "list", dict := none, data := .seq acc c, slots := #[] } ∧ as.length = n ∧ ZG P1 P2 s.heap.objs.size h' as ∧ acc.toList = as.map Value.ref)
    s.heap.objs.size Z D1 D2 (Heap.lt_size hz) (Heap.lt_size hTI) (Heap.lt_size hTO) l1 l2 hn (.ref s.heap.objs.size) 0 (old _ _ hz) (old _ _ hTO) (old _ _ hTI)
    (D1.frame _ _ _ st1 fun b _ o e => old b o e) (D2.frame _ _ _ st2 fun b _ o e => old b o e) new
    (fun h' tk acc c as k q1 q2 q3 q4 => ⟨h', tk, acc, c, as, rfl, rfl, fun b o b2 b3 b4 b5 e => k b o (Nat.ne_of_lt (Heap.lt_size e)) b2 b3 b4 b5 (old b o e), q1, q2, q3, q4⟩)
  have fin : ∀ h' tk acc c as, (∀ b o, b ≠ z → b ≠ TO → b ≠ i1 → b ≠ i2 → s.heap.get? b = some o → h'.get? b = some o) → h'.get? s.heap.objs.size = some { cls := .type "list", dict := none, data := .seq acc c, slots := #[] } → as.length = n → ZG P1 P2 s.heap.objs.size h' as → acc.toList = as.map Value.ref →
      wpAny (model prog w) A (load s.heap.objs.size >>= fun o => match o.data with
        | .seq xs _ => pure xs.toList
        | _ => unsupported "internal:collect") Q E { s with heap := h', toks := tk } := fun h' tk acc c as k q1 q2 q3 q4 => by
    refine wpAny_bind (wpAny_load q1 ?_)
    refine wpAny_pure ?_
    rw [q4]
    exact hQ h' tk acc c as k q1 q2 q3 q4
  refine wpAny_mono key (fun f s' x => ?_) fun e s' ⟨_, _, _, _, _, e', _⟩ => nomatch e'
  cases f with
  | done f =>
    obtain ⟨h', tk, acc, c, as, e, rfl, k, q1, q2, q3, q4⟩ := x
    cases e
    exact fin h' tk acc c as k q1 q2 q3 q4
  | again c1 =>
    refine ⟨x.1, codeAny_mono x.2 fun q s2 y => ?_⟩
    obtain ⟨h', tk, acc, c, as, rfl, rfl, k, q1, q2, q3, q4⟩ := y
    exact fin h' tk acc c as k q1 q2 q3 q4
theorem code_tuple_new_zip {Q₁ : Value → Shared → Prop} (Z : ZipSep2 z TI TO i1 i2 fp1 fp2) (D1 : Draws prog w A.in1.in1.in1 i1 fp1 n P1 St1) (D2 : Draws prog w A.in1.in1.in1 i2 fp2 n P2 St2)
    (l1 : ∀ b ∈ fp1, b < s.heap.objs.size) (l2 : ∀ b ∈ fp2, b < s.heap.objs.size) (hn : n ≤ sizeLine)
    (hz : IsZip s.heap z TI TO .none) (hTO : IsTupOf2 s.heap TO .none .none) (hTI : IsTupOf2 s.heap TI (.ref i1) (.ref i2)) (st1 : St1 0 s.heap) (st2 : St2 0 s.heap)
    (h : ∀ h' tk acc c as, (∀ b o, b ≠ z → b ≠ TO → b ≠ i1 → b ≠ i2 → s.heap.get? b = some o → h'.get? b = some o) → h'.get? s.heap.objs.size = some { cls := .type "list", dict := none, data := .seq acc c, slots := #[] } → as.length = n → ZG P1 P2 s.heap.objs.size h' as → acc.toList = as.map Value.ref →
      Q₁ (.ref h'.objs.size) { s with heap := h'.push { cls := .type "tuple", data := .seq (as.map Value.ref).toArray }, toks := tk }) :
    codeAny (model prog w) A (.call (.builtin "tuple.__new__") ⟨[.type "tuple", .ref z], []⟩) (wants Q₁ E) s := by
  refine codeAny_of_tree ?_
  show wpAny _ A.in1 (do checkBuiltinCall "tuple.__new__" ⟨[.type "tuple", .ref z], []⟩; again (.builtin "tuple.__new__" ⟨[.type "tuple", .ref z], []⟩)) _ _ s
  refine wpAny_bind (wpAny_of_eq (F.newCall_tuple_1 _) (wpAny_pure ⟨plainId_quiet F.plain_tuple_new _, codeAny_builtin F.entry_tuple_new ?_⟩))
  rw [Around.under_plainId F.plain_tuple_new _]
  have hsub := sub_tuple_self
  have hinit := init_tuple_lookup
  have hmh := madeHere_tuple
  have hTI' : s.TypeIs (.ref z) "zip" := ⟨_, hz, rfl⟩
  wp_walk using wpAny_typeOf hTI', zl_collect (A := A.in1) Z D1 D2 l1 l2 hn hz hTO hTI st1 st2
  intro h' tk acc c as hk hS hl hG ha
  show wpAny _ _ (Builtin.Tuple.tupleExact (as.map Value.ref).toArray >>= fun v => ret v) _ _ _
  unfold Builtin.Tuple.tupleExact
  refine wpAny_bind (wpAny_newObj_type ?_ (by show (as.map Value.ref).toArray.size ≤ sizeLine; rw [List.size_toArray, List.length_map, hl]; exact hn))
  refine wpAny_pure ?_
  exact h h' tk acc c as hk hS hl hG ha
theorem call_tuple_zip {Q : Value → Shared → Prop} (Z : ZipSep2 z TI TO i1 i2 fp1 fp2) (D1 : Draws prog w A.in1.in1.in1.in1 i1 fp1 n P1 St1) (D2 : Draws prog w A.in1.in1.in1.in1 i2 fp2 n P2 St2)
    (l1 : ∀ b ∈ fp1, b < s.heap.objs.size) (l2 : ∀ b ∈ fp2, b < s.heap.objs.size) (hn : n ≤ sizeLine)
    (hz : IsZip s.heap z TI TO .none) (hTO : IsTupOf2 s.heap TO .none .none) (hTI : IsTupOf2 s.heap TI (.ref i1) (.ref i2)) (st1 : St1 0 s.heap) (st2 : St2 0 s.heap)
    (h : ∀ h' tk acc c as, (∀ b o, b ≠ z → b ≠ TO → b ≠ i1 → b ≠ i2 → s.heap.get? b = some o → h'.get? b = some o) → h'.get? s.heap.objs.size = some { cls := .type "list", dict := none, data := .seq acc c, slots := #[] } → as.length = n → ZG P1 P2 s.heap.objs.size h' as → acc.toList = as.map Value.ref →
      Q (.ref h'.objs.size) { s with heap := h'.push { cls := .type "tuple", data := .seq (as.map Value.ref).toArray }, toks := tk }) :
    wpAny (model prog w) A (call (.type "tuple") [.ref z]) Q E s := by
  refine callType_codes (Q₁ := fun obj s₁ => s₁.TypeIs obj "tuple" ∧ Q obj s₁) F.called_tuple (F.typeCall_tuple_1 _) F.entry_object_init
    (code_tuple_new_zip (A := A.in1) Z D1 D2 l1 l2 hn hz hTO hTI st1 st2 fun h' tk acc c as hk hS hl hG ha => ⟨⟨_, Heap.get?_push_size _ rfl, rfl⟩, h h' tk acc c as hk hS hl hG ha⟩) fun obj s₁ h₁ => ?_
  exact ⟨h₁.1, F.args_object_init_2 obj _, object_init_meets F.called_tuple.init.lookup F.called_tuple.made (by decide) prog w A.in1 _ s₁ ⟨h₁.1, rfl, h₁.2⟩⟩
end
theorem vals_refs : ∀ as : List Addr, Vals (as.map V.ref) (as.map Value.ref)
  | [] => .nil
  | _ :: as => .cons rfl (vals_refs as)
def rTZip (K : PySem.W.Frag) (vs : List V) (H1 : Hp) (Q : VK) : Prop := ∃ (a b : Addr) (xs ys : List V), vs = [.ref a, .ref b] ∧ SqT K H1 a xs ∧ SqT K H1 b ys ∧ xs.length = ys.length ∧ xs.length ≤ 1000 ∧
  ∀ (t : Addr) (ps : List Addr) H2, Same H1 H2 → H2 t = some (.tup (ps.map V.ref)) → ps.length = xs.length → (∀ (i : Nat) (p : Addr) (x y : V), ps[i]? = some p → xs[i]? = some x → ys[i]? = some y → H2 p = some (.tup [x, y])) → Q (.ref t) H2
section
variable {X : Cx}
theorem pe_tupzip {e e2 : Expr} {t : TA} {p q pos pos2 : Pos} (hc : X.calm = true) (hl : Gl X "tuple") (hm : X.mg "tuple" = none) (hg : Gl X "zip") (hm2 : X.mg "zip" = none) (ha : PA X [e, e2] t)
    (hs : starEach [.Call (.Name "zip" q) [e, e2] [] pos2] X.env = (false, eval (.Call (.Name "zip" q) [e, e2] [] pos2) X.env) :: starEach [] X.env := by rfl)
    (hs2 : starEach [e, e2] X.env = (false, eval e X.env) :: starEach [e2] X.env := by rfl) (hpl : (backTo pos2 (starEach [e2] X.env)).any (·.1) = false := by rfl) :
    PE X (.Call (.Name "tuple" p) [.Call (.Name "zip" q) [e, e2] [] pos2] [] pos) (fun σ H Q => t σ H fun vs H1 => rTZip X.K vs H1 Q) := by
  refine ⟨fun pins s σ H Q I h => ?_⟩
  refine wpAny_Call_Name_kw (ld_blt I hl hm PyProof.Rows.boot_tuple ?_)
  refine PyProof.Rows.callWith_type1 ?_ hs rfl
  rw [hs]
  show wpAny _ _ (spliced ((false, eval (.Call (.Name "zip" q) [e, e2] [] pos2) X.env) :: backTo pos (starEach [] X.env))) _ _ s
  refine Calls.spliced_cons (Call_ (ld_blt I hg hm2 PyProof.Rows.boot_zip (PyProof.Rows.callWith_type1 (thn (ha.run pos2 pins s σ H _ I h) fun us s1 ⟨vs, H1, I1, r1, q1⟩ => ?_) hs2 hpl)))
  obtain ⟨a, b, xs, ys, rfl, hqx, hqy, hlen, few, q1⟩ := q1
  obtain ⟨ua, ub, rfl, ra, rb⟩ : ∃ ua ub, us = [ua, ub] ∧ RelV (.ref a) ua ∧ RelV (.ref b) ub := by
    cases r1 with
    | cons r rr => cases rr with
      | cons r' rr => cases rr; exact ⟨_, _, rfl, r, r'⟩
  cases ra
  cases rb
  obtain ⟨its, rv, p1, _⟩ := I1.tuple hqx
  obtain ⟨its2, rv2, p2, _⟩ := I1.tuple hqy
  have la : a < s1.heap.objs.size := let ⟨_, e, _⟩ := p1; Heap.lt_size e
  have lb : b < s1.heap.objs.size := let ⟨_, e, _⟩ := p2; Heap.lt_size e
  refine zip_begins2 (begins_tuple a its.toArray) (begins_tuple b its2.toArray) p1 p2 fun h' hz hTI hTO g1 g2 hsz hk => Calls.spliced_nil ?_
  have quiet := I1.ok.hd hc
  have n1 : its.toArray.size = xs.length := by rw [List.size_toArray, ← rv.length]
  have n2 : its2.toArray.size = xs.length := by rw [List.size_toArray, ← rv2.length, hlen]
  have D1 : Draws X.prog X.w X.A.in1.in1.in1.in1 s1.heap.objs.size [s1.heap.objs.size, a] xs.length (fun i v => its.toArray[i]? = some v) (fun i h => h.IsTupleIter s1.heap.objs.size a i ∧ h.IsTuple a its.toArray) := n1 ▸ Draws.tuple (A := X.A.in1.in1.in1.in1) quiet s1.heap.objs.size a (Nat.ne_of_lt la) its.toArray
  have D2 : Draws X.prog X.w X.A.in1.in1.in1.in1 (s1.heap.objs.size + 1) [s1.heap.objs.size + 1, b] xs.length (fun i v => its2.toArray[i]? = some v) (fun i h => h.IsTupleIter (s1.heap.objs.size + 1) b i ∧ h.IsTuple b its2.toArray) := n2 ▸ Draws.tuple (A := X.A.in1.in1.in1.in1) quiet (s1.heap.objs.size + 1) b (Nat.ne_of_lt (Nat.lt_succ_of_lt lb)) its2.toArray
  have low : ∀ {n c : Nat}, n < 5 → c < s1.heap.objs.size → ∀ d ∈ [s1.heap.objs.size + n, c], d < h'.objs.size := fun {n c} hn hc d hd => by
    rw [hsz]
    rcases List.mem_cons.mp hd with e | e
    · rw [e]; exact Nat.add_lt_add_left hn _
    · rw [List.mem_singleton.mp e]; exact Nat.lt_of_lt_of_le hc (Nat.le_add_right _ _)
  refine call_tuple_zip (s := { s1 with heap := h' }) (zip_sep2 (N := s1.heap.objs.size) (fp_below la) (fp_below lb)) D1 D2 (low (n := 0) (by decide) la) (low (n := 1) (by decide) lb) (Nat.le_trans few (by decide)) hz hTO hTI
    ⟨⟨_, g1, rfl, rfl⟩, Heap.IsTuple.at p1 fun o e => hk a o e⟩ ⟨⟨_, g2, rfl, rfl⟩, Heap.IsTuple.at p2 fun o e => hk b o e⟩ fun h2 tk acc c as hk2 hS hla hG hacc => ?_
  have hk3 : ∀ c o, s1.heap.get? c = some o → h2.get? c = some o := fun c o e => by
    have lt := Heap.lt_size e
    exact hk2 c o (Nat.ne_of_lt (Nat.lt_of_lt_of_le lt (Nat.le_add_right _ _))) (Nat.ne_of_lt (Nat.lt_of_lt_of_le lt (Nat.le_add_right _ _))) (Nat.ne_of_lt lt) (Nat.ne_of_lt (Nat.lt_of_lt_of_le lt (Nat.le_add_right _ _))) (hk c o e)
  obtain ⟨H', sm, hl', tup, J⟩ := zip_laid (tk := tk) (S := h'.objs.size) I1 rv rv2 hlen (Nat.le_trans few (by decide)) (by rw [hsz]; exact Nat.le_add_right _ _) hk3 hS hla hG hacc
  have fresh := J.hok.fresh (Nat.le_refl h2.objs.size)
  have J2 := J.laid (t' := tk) (a := h2.objs.size) (o := .tup (as.map V.ref)) (h' := h2.push { cls := .type "tuple", data := .seq (as.map Value.ref).toArray }) (fun b o e => Heap.get?_push_of_some _ e) (Nat.le_refl _)
    (show ObjOk X.prog X.w _ _ _ (.tup (as.map V.ref)) from ⟨by rw [List.length_map, hla]; exact Nat.le_trans few (by decide), as.map Value.ref, vals_refs as, IsTup.new h2 _⟩)
  exact ⟨.ref h2.objs.size, _, J2, rfl, q1 _ as _ (sm.new fresh) upd_same hla fun i p x y e1 e2 e3 => (upd_ne (ne_of_none (tup i p x y e1 e2 e3) fresh)).trans (tup i p x y e1 e2 e3)⟩
end

/-! ### list(zip(a, b)) of two tuples -/
def rLZipT (K : PySem.W.Frag) (vs : List V) (H1 : Hp) (Q : VK) : Prop := ∃ (a b : Addr) (xs ys : List V), vs = [.ref a, .ref b] ∧ SqT K H1 a xs ∧ SqT K H1 b ys ∧ xs.length = ys.length ∧ xs.length ≤ 100 ∧
      ∀ (l : Addr) (ps : List Addr) H2, Same H1 H2 → H2 l = some (.lst (ps.map V.ref)) → ps.length = xs.length → (∀ (i : Nat) (p : Addr) (x y : V), ps[i]? = some p → xs[i]? = some x → ys[i]? = some y → H2 p = some (.tup [x, y])) → Q (.ref l) H2
section
variable {X : Cx}
theorem pe_listzipT {e e2 : Expr} {t : TA} {p q pos pos2 : Pos} (hc : X.calm = true) (hl : Gl X "list") (hm : X.mg "list" = none) (hg : Gl X "zip") (hm2 : X.mg "zip" = none) (ha : PA X [e, e2] t)
    (hs : starEach [.Call (.Name "zip" q) [e, e2] [] pos2] X.env = (false, eval (.Call (.Name "zip" q) [e, e2] [] pos2) X.env) :: starEach [] X.env := by rfl)
    (hs2 : starEach [e, e2] X.env = (false, eval e X.env) :: starEach [e2] X.env := by rfl) (hpl : (backTo pos2 (starEach [e2] X.env)).any (·.1) = false := by rfl) :
    PE X (.Call (.Name "list" p) [.Call (.Name "zip" q) [e, e2] [] pos2] [] pos) (fun σ H Q => t σ H fun vs H1 => rLZipT X.K vs H1 Q) := by
  refine ⟨fun pins s σ H Q I h => ?_⟩
  refine wpAny_Call_Name_kw (ld_blt I hl hm boot_list ?_)
  refine PyProof.Rows.callWith_type1 ?_ hs rfl
  rw [hs]
  show wpAny _ _ (spliced ((false, eval (.Call (.Name "zip" q) [e, e2] [] pos2) X.env) :: backTo pos (starEach [] X.env))) _ _ s
  refine Calls.spliced_cons ?_
  refine Call_ (ld_blt I hg hm2 PyProof.Rows.boot_zip (PyProof.Rows.callWith_type1 (thn (ha.run pos2 pins s σ H _ I h) fun us s1 ⟨vs, H1, I1, r1, q1⟩ => ?_) hs2 hpl))
  obtain ⟨a, b, xs, ys, ex, hqx, hqy, hlen, h100, q1⟩ := q1
  subst ex
  cases r1 with
  | cons r rr =>
    cases rr with
    | cons r' rr =>
      cases rr
      cases r
      cases r'
      obtain ⟨its, rv, p1, _⟩ := I1.tuple hqx
      obtain ⟨its2, rv2, p2, _⟩ := I1.tuple hqy
      have la : a < s1.heap.objs.size := let ⟨_, e, _⟩ := p1; Heap.lt_size e
      have lb : b < s1.heap.objs.size := let ⟨_, e, _⟩ := p2; Heap.lt_size e
      refine zip_begins2 (begins_tuple a its.toArray) (begins_tuple b its2.toArray) p1 p2 fun h' hz hTI hTO g1 g2 hsz hk => ?_
      refine Calls.spliced_nil ?_
      have hd := I1.ok.hd hc
      have n1 : its.toArray.size = xs.length := by rw [List.size_toArray, ← rv.length]
      have n2 : its2.toArray.size = xs.length := by rw [List.size_toArray, ← rv2.length, hlen]
      have D1 : Draws X.prog X.w X.A.in1.in1.in1 s1.heap.objs.size [s1.heap.objs.size, a] xs.length (fun i v => its.toArray[i]? = some v) (fun i h => h.IsTupleIter s1.heap.objs.size a i ∧ h.IsTuple a its.toArray) := n1 ▸ Draws.tuple (A := X.A.in1.in1.in1) hd s1.heap.objs.size a (Nat.ne_of_lt la) its.toArray
      have D2 : Draws X.prog X.w X.A.in1.in1.in1 (s1.heap.objs.size + 1) [s1.heap.objs.size + 1, b] xs.length (fun i v => its2.toArray[i]? = some v) (fun i h => h.IsTupleIter (s1.heap.objs.size + 1) b i ∧ h.IsTuple b its2.toArray) := n2 ▸ Draws.tuple (A := X.A.in1.in1.in1) hd (s1.heap.objs.size + 1) b (Nat.ne_of_lt (Nat.lt_succ_of_lt lb)) its2.toArray
      have Z := zip_sep2 (N := s1.heap.objs.size) (fp_below la) (fp_below lb)
      have big : ∀ {c k : Nat}, c < s1.heap.objs.size + 2 → c < h'.objs.size := fun {c k} e => by rw [hsz]; omega
      have low1 : ∀ c ∈ [s1.heap.objs.size, a], c < h'.objs.size := fun c hc => by
        rcases List.mem_cons.mp hc with e | e
        · rw [e, hsz]; exact Nat.lt_add_of_pos_right (by decide)
        · rw [List.mem_singleton.mp e, hsz]; exact Nat.lt_of_lt_of_le la (Nat.le_add_right _ _)
      have low2 : ∀ c ∈ [s1.heap.objs.size + 1, b], c < h'.objs.size := fun c hc => by
        rcases List.mem_cons.mp hc with e | e
        · rw [e, hsz]; exact Nat.add_lt_add_left (by decide) _
        · rw [List.mem_singleton.mp e, hsz]; exact Nat.lt_of_lt_of_le lb (Nat.le_add_right _ _)
      refine zl_call (s := { s1 with heap := h' }) Z D1 D2 low1 low2 (Nat.le_trans h100 (by decide)) hz hTO hTI ⟨⟨_, g1, rfl, rfl⟩, Heap.IsTuple.at p1 fun o e => hk a o e⟩ ⟨⟨_, g2, rfl, rfl⟩, Heap.IsTuple.at p2 fun o e => hk b o e⟩ fun h2 tk acc c as hk2 hS hla hG hacc => ?_
      have hk3 : ∀ c o, s1.heap.get? c = some o → h2.get? c = some o := fun c o e => by
        have lt := Heap.lt_size e
        exact hk2 c o (Nat.ne_of_lt (Nat.lt_of_lt_of_le lt (Nat.le_add_right _ _))) (Nat.ne_of_lt (Nat.lt_of_lt_of_le lt (Nat.le_add_right _ _))) (Nat.ne_of_lt lt) (Nat.ne_of_lt (Nat.lt_of_lt_of_le lt (Nat.le_add_right _ _))) (hk c o e)
      obtain ⟨H', sm, hl', tup, J⟩ := zip_laid (tk := tk) (S := h'.objs.size) I1 rv rv2 hlen (Nat.le_trans h100 (by decide)) (by rw [hsz]; exact Nat.le_add_right _ _) hk3 hS hla hG hacc
      exact ⟨.ref _, H', J, rfl, q1 _ as H' sm hl' hla tup⟩
end


end My
namespace My
open PySem PySem.Spec PyProof.Rows L2 TL
/-! ### sets of texts: made of a tuple or a list of texts, sorted -/
section
open PySem.Froz
/-- what a set of texts keeps: its payload holds the texts L, each once; its table rises and can be walked -/
structure TxR (P : Program) (w : World) (D : SD) (L : List Str) : Prop where
  ok : TxOk P w D L
  nd : L.Nodup
  rows : ((D.1.toList.map (·.2)).map strOf).Perm L
  str : ∀ v ∈ D.1.toList.map (·.2), ∃ k u, v = Value.str k u
  ris : Ris D.2.2.place.toList
  led : w.params.followText "set-order" = true ∨ D.2.2.led = true
theorem tailTx_eq (ep : Nat) (es : Array (Int × Value)) (t : SetTable) (b : Bool) : ∃ es' ep' t', tailTx ep es t b = (es', ep', t') ∧ es'.toList.Perm es.toList ∧ (Ris t.place.toList → Ris t'.place.toList) ∧ t'.led = t.led := by
  unfold tailTx
  by_cases c : (!b && t.tooFull) = true
  · rw [if_pos c]
    exact ⟨_, _, _, rfl, relayAll_perm _ _ _, fun _ => relayAll_ris _ _ _, relayAll_led _ _ _⟩
  · rw [if_neg c]
    exact ⟨_, _, _, rfl, List.Perm.refl _, id, rfl⟩
theorem TxR.add {P : Program} {w : World} {D : SD} {L : List Str} {k : Str} (u : Tok) (F : TxR P w D L) (hk : k ∉ L) : TxR P w (addTx (hashStr w k) (.str k u) D) (k :: L) := by
  have ok := add_ok u F.ok (k := k)
  obtain ⟨es, ep, t⟩ := D
  obtain ⟨_, nd, rows, str, ris, led⟩ := F
  have p0 := layNew_perm t es (hashStr w k) (.str k u)
  have r0 := layNew_ris t es (hashStr w k) (.str k u) ris
  have l0 := layNew_led t es (hashStr w k) (.str k u)
  rw [Array.toList_push] at p0
  unfold addTx at ok ⊢
  dsimp only at ok ⊢
  generalize hZ : layNew t es (hashStr w k) (.str k u) = Z at p0 r0 l0 ok ⊢
  obtain ⟨es1, t1, wd, gave⟩ := Z
  dsimp only at p0 r0 l0 ok ⊢
  have off : ∀ (c : Bool), ((if c = true then { t1 with plain := false } else t1 : SetTable)).place = t1.place ∧ (if c = true then { t1 with plain := false } else t1 : SetTable).led = t1.led := fun c => by cases c <;> exact ⟨rfl, rfl⟩
  obtain ⟨o1, o2⟩ := off t1.plain
  obtain ⟨es', ep', t', e, pe, re, le⟩ := tailTx_eq ep es1 (if t1.plain = true then { t1 with plain := false } else t1) wd
  rw [e] at ok ⊢
  have pp : (es'.toList.map (·.2)).Perm (es.toList.map (·.2) ++ [Value.str k u]) := by
    have q := (pe.trans p0).map (·.2)
    rw [List.map_append] at q
    exact q
  refine ⟨ok, List.nodup_cons.mpr ⟨hk, nd⟩, ?_, fun v hv => ?_, re (by rw [o1]; exact r0), led.imp id fun z => by rw [le, o2, l0]; exact z⟩
  · have q := pp.map strOf
    rw [List.map_append] at q
    exact q.trans ((List.perm_append_singleton _ _).trans (rows.cons k))
  · rcases List.mem_append.mp (pp.mem_iff.mp hv) with z | z
    · exact str v z
    · exact ⟨k, u, List.mem_singleton.mp z⟩
section
variable {P : Program} {w : World} {A : Around} {E : Value → Shared → Prop} {s : Shared}
theorem add_old {a : Addr} {T : String} {D : SD} {L : List Str} {k : Str} {u : Tok} {Q : Bool → Shared → Prop} (ho : s.heap.get? a = some (sObj T D)) (F : TxOk P w D L) (hk : k ∈ L) (hb : L.length < scanBound) (h : Q false s) :
    wpAny (model P w) A (setAddHashed a (.str k u) (hashStr w k)) Q E s := by
  obtain ⟨es, ep, t⟩ := D
  have hd : (sObj T (es, ep, t)).data = .set es ep t := rfl
  have hf : t.fits es.size = true := F.fit
  have hel : ElemsOf (PySem.strKind P w) es.toList := F.el
  have hsz : es.size = L.length := F.sz
  cases hfi : List.findIdx? (fun e => (PySem.strKind P w).is k e.2) es.toList with
  | none =>
    obtain ⟨e, he, z⟩ := (F.mem k).mp hk
    have c := List.findIdx?_eq_none_iff.mp hfi e he
    rw [z] at c
    cases c
  | some j =>
    unfold setAddHashed setAddHashedIn
    refine wpAny_holding (wpAny_bind (wpAny_setState_of ho hd hf ?_))
    dsimp only
    rw [byScan_of rfl (by omega) hel]
    simp only [↓reduceIte]
    unfold setAddByScan
    refine wpAny_bind (wpAny_bind (wpAny_rule (wpAny_bind (wpAny_setScan_of (knd := PySem.strKind P w) (k := k) (is_str k u) ho hd hf hel ?_))))
    rw [hfi]
    dsimp only
    exact wpAny_pure (wpAny_pure h)
end
/-- the set of texts at a -/
def SetS (P : Program) (w : World) (h : Heap) (a : Addr) (L : List Str) : Prop := ∃ D, h.get? a = some (sObj "set" D) ∧ TxR P w D L
theorem SetS.at {P : Program} {w : World} {h h' : Heap} {a : Addr} {L : List Str} (R : SetS P w h a L) (k : ∀ o, h.get? a = some o → h'.get? a = some o) : SetS P w h' a L := by
  obtain ⟨D, ho, r⟩ := R
  exact ⟨D, k _ ho, r⟩
def freshSet (w : World) : Obj := { cls := .type "set", dict := none, data := .set #[] 0 (.fresh 0 0 (!w.params.followText "set-order")) }
theorem SetS.fresh {P : Program} {w : World} {h : Heap} {a : Addr} (ho : h.get? a = some (freshSet w)) : SetS P w h a [] :=
  ⟨(#[], 0, .fresh 0 0 (!w.params.followText "set-order")), ho, .nil rfl, List.nodup_nil, List.Perm.refl _, fun v hv => (by simp at hv), List.Pairwise.nil, by
    show _ ∨ (!w.params.followText "set-order") = true
    cases w.params.followText "set-order"
    · exact .inr rfl
    · exact .inl rfl⟩
section
variable {P : Program} {w : World} {A : Around} {E : Value → Shared → Prop} {s : Shared}
/-- one text more -/
theorem SetS.put {a : Addr} {L : List Str} {k : Str} {u : Tok} {Q : Bool → Shared → Prop} (R : SetS P w s.heap a L) (room : L.length + 1 < scanBound)
    (h : ∀ b h' L', Heap.SameBut a s.heap h' → SetS P w h' a L' → L'.length ≤ L.length + 1 → (∀ x, x ∈ L' ↔ x = k ∨ x ∈ L) → Q b { s with heap := h' }) :
    wpAny (model P w) A (setAddHashed a (.str k u) (hashStr w k)) Q E s := by
  obtain ⟨D, ho, r⟩ := R
  by_cases hk : k ∈ L
  · exact add_old ho r.ok hk (by omega) (h false s.heap L (Heap.SameBut.refl a s.heap) ⟨D, ho, r⟩ (Nat.le_succ _) fun x => ⟨.inr, fun z => z.elim (fun e => e ▸ hk) id⟩)
  · refine add_x ho r.ok hk room (h true _ (k :: L) (Heap.SameBut.update s.heap a _) ⟨_, get_upd _ ho rfl, r.add u hk⟩ (Nat.le_refl _) fun x => List.mem_cons)
/-- the loop that puts a walk's texts into the set -/
theorem put_texts {I : Addr} {fp wr : List Addr} {G : Array GenState → Array GenState → Prop} {n : Nat} {Pv : Nat → Value → Prop} {St : Nat → Shared → Prop} {R : Result → Shared → Prop}
    (W : WalksS P w A.in1 I fp wr G n Pv St) (S : Addr) (far : S ∉ fp) (ks : List Str) (hn : n = ks.length) (few : ks.length + 1 < scanBound) (txt : ∀ i v, Pv i v → ∃ k u, ks[i]? = some k ∧ v = .str k u) :
    ∀ (m i : Nat) (s : Shared), n - i = m → i ≤ n → St i s → (∃ L, L.length ≤ i ∧ (∀ x, x ∈ L ↔ x ∈ ks.take i) ∧ SetS P w s.heap S L) →
      (∀ s' L, Moved (S :: wr) G s s' → L.length ≤ n → (∀ x, x ∈ L ↔ x ∈ ks) → SetS P w s'.heap S L → R (.ok (.ret .none)) s') →
      codeAny (model P w) A (.builtin "set.update.loop" ⟨[.ref S, .ref I], []⟩) R s := by
  have notW : S ∉ wr := fun z => far (W.sub _ z)
  have wider : ∀ b ∈ wr, b ∈ S :: wr := fun b => List.mem_cons_of_mem _
  intro m
  induction m with
  | zero =>
    intro i s hm hi st ⟨L, hL, mem, hS⟩ fin
    obtain rfl : i = n := by omega
    refine codeAny_builtin F.entry_set_update_loop ?_
    rw [Around.under_plainId F.plain_set_update_loop _]
    refine wpAny_bind (W.done s _ _ st fun s' mv => ?_)
    rw [List.take_of_length_le (by omega)] at mem
    exact wpAny_pure (fin s' L (mv.mono wider) hL mem (hS.at fun o e => mv.heap S o notW e))
  | succ m ih =>
    intro i s hm hi st ⟨L, hL, mem, hS⟩ fin
    have lt : i < n := by omega
    refine codeAny_builtin F.entry_set_update_loop ?_
    rw [Around.under_plainId F.plain_set_update_loop _]
    refine wpAny_bind (W.item i s _ _ lt st fun v s1 hv st1 mv => ?_)
    obtain ⟨k, u, hk, rfl⟩ := txt i v hv
    have hS1 : SetS P w s1.heap S L := hS.at fun o e => mv.heap S o notW e
    show wpAny _ A.in1 (holding [Value.str k u] (setAdd S (.str k u)) >>= _) _ _ s1
    refine wpAny_bind (wpAny_holding ?_)
    unfold setAdd
    refine wpAny_holding (wpAny_bind ((PySem.strKind P w).pyHash (k := k) (is_str k u) ?_))
    refine SetS.put (s := { s1 with toks := s1.toks + 1 }) hS1 (by omega) fun b h' L' sb hS2 hL2 mem2 => ?_
    refine wpAny_pure ⟨plainId_quiet F.plain_set_update_loop _, ih (i + 1) _ (by omega) lt (W.frame _ s1 _ _ st1 (Nat.le_succ _) fun c hc o e => ?_) ⟨L', by omega, fun x => ?_, hS2⟩ fun s2 L2 mv2 hL3 mem3 hS3 => ?_⟩
    · rw [sb.2 c (fun z => far (z ▸ hc))]
      exact e
    · rw [mem2, mem, List.take_add_one, hk, List.mem_append]
      show _ ↔ _ ∨ x ∈ [k]
      rw [List.mem_singleton]
      exact Or.comm
    · refine fin s2 L2 (Moved.trans W.gtrans ((mv.mono wider).then_heap (Nat.le_succ _) fun c o hc e => ?_) mv2) hL3 mem3 hS3
      rw [sb.2 c (fun z => hc (z ▸ List.mem_cons_self))]
      exact e
end
end


end My
namespace My
open PySem PySem.Spec PyProof.Rows L2 TL
/-! ### set(x), x a tuple or a list of texts -/
section
variable {P : Program} {w : World} {A : Around} {E : Value → Shared → Prop} {s : Shared}
/-- set(x): what __init__ does with the new, empty set is left open -/
theorem set_call (a : Value) {Q : Value → Shared → Prop} {R : Shared → Prop} (init : codeAny (model P w) A.in1 (.call (.builtin "set.__init__") ⟨[.ref s.heap.objs.size, a], []⟩) (wants (fun r s2 => r = .none ∧ R s2) E) { s with heap := s.heap.push (freshSet w) }) (fin : ∀ s2, R s2 → Q (.ref s.heap.objs.size) s2) :
    wpAny (model P w) A (call (.type "set") [a]) Q E s := by
  obtain ⟨c, tl, hmro⟩ := F.called_set.mro
  have hmade := F.called_set.made
  have hsub := F.called_set.sub
  refine wpAny_call (codeAny_of_tree ?_)
  show wpAny _ _ (callAny (.type "set") _) _ _ _
  refine wpAny_pure ⟨Code.quiet_builtin _ (by decide +kernel), codeAny_builtin F.entry_type_call ?_⟩
  rw [Around.under_plain (weight_type_call_type "set" [a] []) rfl]
  have h1 := F.called_set.notType
  have h2 := F.called_set.canCreate
  have hct := F.typeCall_set_1 a
  repeat (any_goals (first | assumption | wp_step))
  refine codeAny_mono (code_set_led1 a (E := E) (Q₁ := fun obj s₁ => obj = .ref s.heap.objs.size ∧ s₁ = { s with heap := s.heap.push (freshSet w) }) ⟨rfl, rfl⟩) fun r s₁ hr => ?_
  match r, hr with
  | .error e, hr => exact hr
  | .ok .next, hr => exact hr.elim
  | .ok .brk, hr => exact hr.elim
  | .ok .cont, hr => exact hr.elim
  | .ok (.ret obj), hr =>
    obtain ⟨rfl, rfl⟩ := hr
    have hS : (s.heap.push (freshSet w)).get? s.heap.objs.size = some (freshSet w) := Heap.get?_push_size _ rfl
    have hT : Shared.TypeIs { s with heap := s.heap.push (freshSet w) } (.ref s.heap.objs.size) "set" := ⟨_, hS, rfl⟩
    have hli := F.called_set.init.lookup
    have hbi := F.called_set.init.bind (.ref s.heap.objs.size)
    repeat (any_goals (first | assumption | wp_step))
    refine codeAny_mono init fun r2 s2 hr2 => ?_
    match r2, hr2 with
    | .error e, hr2 => exact hr2
    | .ok .next, hr2 => exact hr2.elim
    | .ok .brk, hr2 => exact hr2.elim
    | .ok .cont, hr2 => exact hr2.elim
    | .ok (.ret v), hr2 =>
      obtain ⟨rfl, q⟩ := hr2
      repeat (any_goals (first | assumption | wp_step))
      exact fin _ q
theorem txt_at : ∀ {us : List Value} {ks : List Str}, StrsAre us ks → us.length = ks.length ∧ ∀ (i : Nat) (v : Value), us[i]? = some v → ∃ k u, ks[i]? = some k ∧ v = .str k u
  | _, _, .nil => ⟨rfl, fun i v h => (by simp at h)⟩
  | _, _, .cons n t r => by
    obtain ⟨l, g⟩ := txt_at r
    refine ⟨congrArg (· + 1) l, fun i v h => ?_⟩
    cases i with
    | zero => exact ⟨n, t, rfl, (Option.some.inj h).symm⟩
    | succ i => exact g i v h
/-- the walk over a tuple or a list puts its texts into the new set -/
theorem set_tup {l : Addr} {items : Array Value} {ks : List Str} {Q : Value → Shared → Prop} (hh : A.handled = none) (hl : s.heap.IsTuple l items) (hi : StrsAre items.toList ks) (few : ks.length + 1 < scanBound)
    (h : ∀ (h' : Heap) (tk : Nat) L, SetS P w h' s.heap.objs.size L → L.length ≤ ks.length → (∀ x, x ∈ L ↔ x ∈ ks) → (∀ b o, s.heap.get? b = some o → h'.get? b = some o) → Q (.ref s.heap.objs.size) { s with heap := h', toks := tk }) :
    wpAny (model P w) A (call (.type "set") [.ref l]) Q E s := by
  obtain ⟨⟨ocls, odict, odata, oslots⟩, hol, hcl, nl, hdl⟩ := hl
  simp only at hcl hdl
  subst hcl
  subst hdl
  have hS : (s.heap.push (freshSet w)).get? s.heap.objs.size = some (freshSet w) := Heap.get?_push_size _ rfl
  have hT : Shared.TypeIs { s with heap := s.heap.push (freshSet w) } (.ref s.heap.objs.size) "set" := ⟨_, hS, rfl⟩
  have hol' : (s.heap.push (freshSet w)).get? l = some { cls := .type "tuple", dict := odict, data := .seq items nl, slots := oslots } := Heap.get?_push_of_some _ hol
  have hl1 : (s.heap.push (freshSet w)).IsTuple l items := ⟨_, hol', rfl, nl, rfl⟩
  refine set_call (R := fun s2 => ∃ h' tk L, s2 = { s with heap := h', toks := tk } ∧ SetS P w h' s.heap.objs.size L ∧ L.length ≤ ks.length ∧ (∀ x, x ∈ L ↔ x ∈ ks) ∧ ∀ b o, s.heap.get? b = some o → h'.get? b = some o) (.ref l) (codeAny_call_builtin F.called_set.init.plain F.entry_set_init (check_set_init_1 hT ?_)) fun s2 ⟨h', tk, L, e, q1, q2, q3, q4⟩ => by rw [e]; exact h h' tk L q1 q2 q3 q4
  have hsls := F.sub_tuple_set
  have hslf := F.sub_tuple_frozenset
  have hne : (Value.type "tuple" == Value.type "dict") = false := by decide
  unfold Builtin.«set.__init__» noKeywords Builtin.Frozenset.updateFrom
  generalize hPI : pyIter = PI
  wp_walk
  subst hPI
  refine wpAny_pyIter_tuple hl1 ?_
  refine wpAny_bind (wpAny_runValue ?_)
  have hlS : l < s.heap.objs.size := Heap.lt_size hol
  have sz : (s.heap.push (freshSet w)).objs.size = s.heap.objs.size + 1 := Heap.size_push ..
  obtain ⟨ln, txt⟩ := txt_at hi
  rw [Array.length_toList] at ln
  refine put_texts ((Walks.tuple (by simp [hh]) _ l (by rw [sz]; exact Nat.ne_of_lt (Nat.lt_succ_of_lt hlS)) items).toS) s.heap.objs.size ?_ ks ln few (fun i v hv => txt i v (by rw [Array.getElem?_toList]; exact hv)) (items.size - 0) 0 _ (by omega) (Nat.zero_le _)
    ⟨⟨_, Heap.get?_push_size _ rfl, rfl, rfl⟩, hl1.push _⟩ ⟨[], Nat.le_refl _, fun x => by rw [List.take_zero], SetS.fresh (Heap.get?_push_of_some _ hS)⟩ fun s' L mv hL mem hS' => ?_
  · rw [sz]
    simp only [List.mem_cons, List.not_mem_nil, or_false, not_or]
    exact ⟨Nat.ne_of_lt (Nat.lt_succ_self _), Nat.ne_of_gt hlS⟩
  · obtain ⟨h', g2, d', tk', os'⟩ := s'
    have eg : g2 = s.gens := mv.gens
    have ed : d' = s.drawn := mv.drawn
    have eo : os' = s.os := mv.os
    subst eg
    subst ed
    subst eo
    show wpAny _ _ _ _ _ _
    refine wpAny_pure ?_
    show wpAny _ _ (ret Value.none) _ _ _
    refine wpAny_pure ⟨rfl, h', tk', L, rfl, hS', by omega, mem, fun b o e => ?_⟩
    have hb : b < s.heap.objs.size := Heap.lt_size e
    refine mv.heap b o ?_ (Heap.get?_push_of_some _ (Heap.get?_push_of_some _ e))
    simp only [List.mem_cons, List.not_mem_nil, or_false, not_or]
    exact ⟨Nat.ne_of_lt hb, by show b ≠ (s.heap.push (freshSet w)).objs.size; rw [sz]; exact Nat.ne_of_lt (Nat.lt_succ_of_lt hb)⟩
end


end My
namespace My
open PySem PySem.Spec PyProof.Rows L2 TL
/-! ### sorted(a set of texts); set and sorted as calls -/
section
open PySem.Froz
variable {P : Program} {w : World} {A : Around} {E : Value → Shared → Prop} {s : Shared}
theorem SetS.sorted {a : Addr} {L : List Str} {Q : Value → Shared → Prop} (R : SetS P w s.heap a L) (hh : A.handled = none) (h64 : L.length < 64)
    (h : ∀ s' p (out : Array Value) (c : Nat) (ys : List Str), (∀ b o, s.heap.get? b = some o → s'.heap.get? b = some o) → s'.gens = s.gens → s'.os = s.os → s.heap.objs.size ≤ p → s'.heap.get? p = some (seqObj "list" out c) →
      StrsAre out.toList ys → ys.Perm L → ys.Nodup → sortedS ys = true → Q (.ref p) s') : wpAny (model P w) A (call (.builtin "sorted") [.ref a]) Q E s := by
  obtain ⟨⟨es, ep, t⟩, ho, ok, nd, rows, str, ris, led⟩ := R
  have hsz : es.size = L.length := ok.sz
  refine Calls.call_function_entry kind_sorted plain_sorted entry_sorted (args_sorted1 _) ?_
  unfold Builtin.«sorted»
  refine wpAny_bind (m := checkCount "sorted" 1 1 _) (wpAny_pure ?_)
  refine wpAny_bind (collect_set (A := A.in1) hh ⟨_, ho, rfl, rfl⟩ ok.fit (by show es.size < scanBound; rw [hsz]; unfold scanBound; omega) ris led fun s1 vs k1 hz g1 o1 pm => ?_)
  have S0 : StrsAre vs (vs.map strOf) := strsAre_map vs fun v hv => str v (pm.mem_iff.mp hv)
  have pk : (vs.map strOf).Perm L := (pm.map strOf).trans rows
  have ln : vs.length = L.length := by rw [← pk.length_eq, List.length_map]
  refine wpAny_bind (wpAny_newList ?_ (by rw [ln, sizeLine_eq]; omega))
  have hoL : (s1.heap.push (seqObj "list" vs.toArray 0)).get? s1.heap.objs.size = some (seqObj "list" vs.toArray 0) := Heap.get?_push_size _ rfl
  refine wpAny_bind (wpAny_holding (wpAny_call_entry slot_list_sort ⟨_, hoL, rfl⟩ entry_list_sort
    (list_sort_treeK strKind_oneLt (s := { s1 with heap := s1.heap.push (seqObj "list" vs.toArray 0) }) hoL S0.keysOf (fun v₁ v₂ rest e => keyKind_strs (by rw [← e]; exact S0)) (by rw [ln]; exact h64) fun st' hp hs => ⟨_, rfl, ?_⟩) (args_list_sort _)))
  obtain ⟨ys, y1, y2, y3⟩ := sorted_out_str S0 hp hs
  obtain ⟨c, hc⟩ := sortedHeap_at (vs := vs) (out := (arrOf st').map (·.2)) hoL
  have pL := y2.trans pk
  refine wpAny_pure ⟨_, rfl, h _ s1.heap.objs.size _ c ys (fun b u e => ?_) g1 o1 hz hc y1 pL (pL.nodup_iff.mpr nd) y3⟩
  have e1 := k1 b u e
  have lt := Heap.lt_size e1
  show (sortedHeap (s1.heap.push (seqObj "list" vs.toArray 0)) s1.heap.objs.size vs _).get? b = some u
  rw [sortedHeap_old (Nat.ne_of_lt lt) (by rw [size_push']; exact Nat.lt_succ_of_lt lt)]
  exact Heap.get?_push_of_some _ e1
end
/-- the set of texts at a, in the drawn heap -/
def SetSO (P : Program) (w : World) (a : Addr) (L : List Str) : HO := .ext fun h => SetS P w h a L
theorem setSO_new {w : World} {P : Program} {H : Hp} {h : Heap} {a : Addr} {L : List Str} (R : SetS P w h a L) : ObjOk P w H h a (SetSO P w a L) := by
  have ⟨D, ho, _⟩ := R
  exact ⟨R, ⟨_, ho⟩, fun h1 h2 p k => SetS.at p k⟩
section
variable {X : Cx}
/-- set(x), x a tuple of texts -/
def rSetS (K : PySem.W.Frag) (P : Program) (w : World) : List V → Hp → VK → Prop := fun xs H Q => ∃ (l : Addr) (ks : List Str), xs = [V.ref l] ∧ SqT K H l (ks.map V.str) ∧ ks.length < 64 ∧
  ∀ a L, H a = none → L.length ≤ ks.length → (∀ x, x ∈ L ↔ x ∈ ks) → Q (.ref a) (upd H a (SetSO P w a L))
theorem cr_setS (hc : X.calm = true) : CallR X (.type "set") (rSetS X.K X.prog X.w) := by
  intro pins s σ H xs us Q I r h
  obtain ⟨l, ks, rfl, hl, hf, q⟩ := h
  rw [Vals.ref1 r]
  obtain ⟨its, rv, ⟨o, ho, hc1, n, hd⟩, hz⟩ := I.tuple hl
  refine set_tup (P := X.prog) (w := X.w) (ks := ks) (I.ok.hd hc) ⟨o, ho, hc1, n, hd⟩ (by simpa using strsAre_of rv) (by unfold scanBound; omega) fun h' tk L R hL mem k => ?_
  exact ⟨.ref s.heap.objs.size, upd H s.heap.objs.size (SetSO X.prog X.w s.heap.objs.size L), I.laid (t' := tk) k (Nat.le_refl _) (setSO_new R), rfl, q _ L (I.hok.fresh (Nat.le_refl _)) hL mem⟩
/-- sorted(x), x a set of fewer than 64 texts -/
def rSortS (P : Program) (w : World) : List V → Hp → VK → Prop := fun xs H Q => ∃ (a : Addr) (L : List Str), xs = [V.ref a] ∧ H a = some (SetSO P w a L) ∧ L.length < 64 ∧
  ∀ (ys : List Str) (p : Addr), ys.Perm L → ys.Nodup → sortedS ys = true → H p = none → Q (.ref p) (upd H p (.lst (ys.map V.str)))
theorem vals_strs : ∀ {us : List Value} {ys : List Str}, StrsAre us ys → Vals (ys.map V.str) us
  | _, _, .nil => .nil
  | _, _, .cons n t r => .cons ⟨t, rfl⟩ (vals_strs r)
theorem cr_sortS (hc : X.calm = true) : CallR X (.builtin "sorted") (rSortS X.prog X.w) := by
  intro pins s σ H vs us Q I r h
  obtain ⟨a, L, rfl, ha, h64, q⟩ := h
  rw [Vals.ref1 r]
  have R : SetS X.prog X.w s.heap a L := (I.hok a _ ha).1
  refine R.sorted (I.ok.hd hc) h64 fun s' p out c ys k g o hp hg hs pm nd so => ?_
  have hlen : (ys.map V.str).length ≤ sizeLine := by rw [List.length_map, pm.length_eq, sizeLine_eq]; omega
  have hn : H p = none := I.hok.fresh hp
  have J : Inv X pins σ (upd H p (.lst (ys.map V.str))) { s with heap := s'.heap, gens := s'.gens, drawn := s'.drawn, toks := s'.toks } :=
    I.call (ch := []) (Un.laid k hp hn) (I.hok.laid k hp ⟨hlen, out.toList, c, vals_strs hs, hg⟩) (by rw [g]; exact I.bare) (fun _ z => nomatch z)
  have e : s' = { s with heap := s'.heap, gens := s'.gens, drawn := s'.drawn, toks := s'.toks } := by
    cases s'
    cases s
    cases o
    rfl
  rw [e]
  exact ⟨.ref p, _, J, rfl, q ys p pm nd so hn⟩
end


end My
namespace My
open PySem PySem.Spec PyProof.Rows L2 TL
/-! ### set(x), x a list of texts -/
section
open PySem.Froz
variable {P : Program} {w : World} {A : Around} {E : Value → Shared → Prop} {s : Shared}
/-- the walk over a tuple or a list puts its texts into the new set -/
theorem set_lst {l : Addr} {items : Array Value} {ks : List Str} {Q : Value → Shared → Prop} (hh : A.handled = none) (hl : s.heap.IsList l items) (hi : StrsAre items.toList ks) (few : ks.length + 1 < scanBound)
    (h : ∀ (h' : Heap) (tk : Nat) L, SetS P w h' s.heap.objs.size L → L.length ≤ ks.length → (∀ x, x ∈ L ↔ x ∈ ks) → (∀ b o, s.heap.get? b = some o → h'.get? b = some o) → Q (.ref s.heap.objs.size) { s with heap := h', toks := tk }) :
    wpAny (model P w) A (call (.type "set") [.ref l]) Q E s := by
  obtain ⟨⟨ocls, odict, odata, oslots⟩, hol, hcl, ⟨nl, hdl⟩⟩ := hl
  simp only at hcl hdl
  subst hcl
  subst hdl
  have hS : (s.heap.push (freshSet w)).get? s.heap.objs.size = some (freshSet w) := Heap.get?_push_size _ rfl
  have hT : Shared.TypeIs { s with heap := s.heap.push (freshSet w) } (.ref s.heap.objs.size) "set" := ⟨_, hS, rfl⟩
  have hol' : (s.heap.push (freshSet w)).get? l = some { cls := .type "list", dict := odict, data := .seq items nl, slots := oslots } := Heap.get?_push_of_some _ hol
  have hl1 : (s.heap.push (freshSet w)).IsList l items := ⟨_, hol', rfl, nl, rfl⟩
  refine set_call (R := fun s2 => ∃ h' tk L, s2 = { s with heap := h', toks := tk } ∧ SetS P w h' s.heap.objs.size L ∧ L.length ≤ ks.length ∧ (∀ x, x ∈ L ↔ x ∈ ks) ∧ ∀ b o, s.heap.get? b = some o → h'.get? b = some o) (.ref l) (codeAny_call_builtin F.called_set.init.plain F.entry_set_init (check_set_init_1 hT ?_)) fun s2 ⟨h', tk, L, e, q1, q2, q3, q4⟩ => by rw [e]; exact h h' tk L q1 q2 q3 q4
  have hsls := F.sub_list_set
  have hslf := F.sub_list_frozenset
  have hne : (Value.type "list" == Value.type "dict") = false := by decide
  unfold Builtin.«set.__init__» noKeywords Builtin.Frozenset.updateFrom
  generalize hPI : pyIter = PI
  wp_walk
  subst hPI
  refine wpAny_pyIter_list hl1 ?_
  refine wpAny_bind (wpAny_runValue ?_)
  have hlS : l < s.heap.objs.size := Heap.lt_size hol
  have sz : (s.heap.push (freshSet w)).objs.size = s.heap.objs.size + 1 := Heap.size_push ..
  obtain ⟨ln, txt⟩ := txt_at hi
  rw [Array.length_toList] at ln
  refine put_texts ((Walks.list (by simp [hh]) _ l (by rw [sz]; exact Nat.ne_of_lt (Nat.lt_succ_of_lt hlS)) items).toS) s.heap.objs.size ?_ ks ln few (fun i v hv => txt i v (by rw [Array.getElem?_toList]; exact hv)) (items.size - 0) 0 _ (by omega) (Nat.zero_le _)
    ⟨⟨_, Heap.get?_push_size _ rfl, rfl, rfl⟩, hl1.push _⟩ ⟨[], Nat.le_refl _, fun x => by rw [List.take_zero], SetS.fresh (Heap.get?_push_of_some _ hS)⟩ fun s' L mv hL mem hS' => ?_
  · rw [sz]
    simp only [List.mem_cons, List.not_mem_nil, or_false, not_or]
    exact ⟨Nat.ne_of_lt (Nat.lt_succ_self _), Nat.ne_of_gt hlS⟩
  · obtain ⟨h', g2, d', tk', os'⟩ := s'
    have eg : g2 = s.gens := mv.gens
    have ed : d' = s.drawn := mv.drawn
    have eo : os' = s.os := mv.os
    subst eg
    subst ed
    subst eo
    show wpAny _ _ _ _ _ _
    refine wpAny_pure ?_
    show wpAny _ _ (ret Value.none) _ _ _
    refine wpAny_pure ⟨rfl, h', tk', L, rfl, hS', by omega, mem, fun b o e => ?_⟩
    have hb : b < s.heap.objs.size := Heap.lt_size e
    refine mv.heap b o ?_ (Heap.get?_push_of_some _ (Heap.get?_push_of_some _ e))
    simp only [List.mem_cons, List.not_mem_nil, or_false, not_or]
    exact ⟨Nat.ne_of_lt hb, by show b ≠ (s.heap.push (freshSet w)).objs.size; rw [sz]; exact Nat.ne_of_lt (Nat.lt_succ_of_lt hb)⟩
end
section
variable {X : Cx}
/-- set(x), x a tuple or a list of texts -/
def rSetE (K : PySem.W.Frag) (P : Program) (w : World) : List V → Hp → VK → Prop := fun xs H Q => ∃ (l : Addr) (ks : List Str), xs = [V.ref l] ∧ (SqT K H l (ks.map V.str) ∨ SqL K H l (ks.map V.str)) ∧ ks.length < 64 ∧
  ∀ a L, H a = none → L.length ≤ ks.length → (∀ x, x ∈ L ↔ x ∈ ks) → Q (.ref a) (upd H a (SetSO P w a L))
theorem cr_setE (hc : X.calm = true) : CallR X (.type "set") (rSetE X.K X.prog X.w) := by
  intro pins s σ H xs us Q I r h
  obtain ⟨l, ks, rfl, hl, hf, q⟩ := h
  rcases hl with hl | hl
  · exact cr_setS hc pins s σ H _ us Q I r ⟨l, ks, rfl, hl, hf, q⟩
  · rw [Vals.ref1 r]
    obtain ⟨its, rv, p, hz⟩ := I.list hl
    refine set_lst (P := X.prog) (w := X.w) (ks := ks) (I.ok.hd hc) p.isList (by simpa using strsAre_of rv) (by unfold scanBound; omega) fun h' tk L R hL mem k => ?_
    exact ⟨.ref s.heap.objs.size, upd H s.heap.objs.size (SetSO X.prog X.w s.heap.objs.size L), I.laid (t' := tk) k (Nat.le_refl _) (setSO_new R), rfl, q _ L (I.hok.fresh (Nat.le_refl _)) hL mem⟩
end


end My
namespace My
open PySem PySem.Spec PyProof.Rows L2 TL
/-! ### a row of texts in order, no two alike, is settled by its members -/
theorem lt_trans_no : ∀ a b c : List Nat, ltCps b a = false → ltCps c b = false → ltCps c a = false
  | [], _, c, _, _ => by cases c <;> rfl
  | x :: r, [], _, h, _ => by cases h
  | x :: r, y :: s, [], _, h => by cases h
  | x :: r, y :: s, z :: t, h1, h2 => by
    unfold ltCps at h1 h2 ⊢
    simp only [Bool.or_eq_false_iff, Bool.and_eq_false_iff, decide_eq_false_iff_not, beq_eq_false_iff_ne] at h1 h2 ⊢
    obtain ⟨a1, a2⟩ := h1
    obtain ⟨b1, b2⟩ := h2
    refine ⟨by omega, ?_⟩
    by_cases e : z = x
    · have e1 : y = x := by omega
      have e2 : z = y := by omega
      exact .inr (lt_trans_no r s t (a2.resolve_left fun k => k e1) (b2.resolve_left fun k => k e2))
    · exact .inl e
theorem lt_both_no : ∀ a b : List Nat, ltCps a b = false → ltCps b a = false → a = b
  | [], [], _, _ => rfl
  | [], _ :: _, h, _ => by cases h
  | _ :: _, [], _, h => by cases h
  | x :: r, y :: s, h1, h2 => by
    unfold ltCps at h1 h2
    simp only [Bool.or_eq_false_iff, Bool.and_eq_false_iff, decide_eq_false_iff_not, beq_eq_false_iff_ne] at h1 h2
    obtain ⟨a1, a2⟩ := h1
    obtain ⟨b1, b2⟩ := h2
    have e : x = y := by omega
    rw [e, lt_both_no r s (a2.resolve_left fun k => k e) (b2.resolve_left fun k => k e.symm)]
theorem rising_all : ∀ (p : Str) (l : List Str), risingS p l = true → ∀ x ∈ l, ltCps x.cps.toList p.cps.toList = false
  | _, [], _, _, h => by cases h
  | p, y :: r, h, x, hx => by
    unfold risingS at h
    obtain ⟨h1, h2⟩ := Bool.and_eq_true_iff.mp h
    have h1 : ltCps y.cps.toList p.cps.toList = false := by simpa using h1
    rcases List.mem_cons.mp hx with rfl | hx
    · exact h1
    · exact lt_trans_no _ _ _ h1 (rising_all y r h2 x hx)
theorem rising_tail {p : Str} : ∀ {l : List Str}, risingS p l = true → sortedS l = true
  | [], _ => rfl
  | y :: r, h => by
    unfold risingS at h
    exact (Bool.and_eq_true_iff.mp h).2
theorem sorted_one : ∀ (ys zs : List Str), sortedS ys = true → sortedS zs = true → ys.Nodup → zs.Nodup → (∀ x, x ∈ ys ↔ x ∈ zs) → ys = zs
  | [], [], _, _, _, _, _ => rfl
  | [], z :: t, _, _, _, _, h => by cases (h z).mpr (List.mem_cons_self ..)
  | x :: r, [], _, _, _, _, h => by cases (h x).mp (List.mem_cons_self ..)
  | x :: r, z :: t, sy, sz, ny, nz, h => by
    have hx := rising_all x r sy
    have hz := rising_all z t sz
    have self : ∀ a : List Nat, ltCps a a = false := by
      intro a
      induction a with
      | nil => rfl
      | cons n r ih => unfold ltCps; simp [ih]
    have e : x = z := by
      have e1 : ltCps x.cps.toList z.cps.toList = false := by
        rcases List.mem_cons.mp ((h x).mp (List.mem_cons_self ..)) with k | k
        · rw [k]; exact self _
        · exact hz x k
      have e2 : ltCps z.cps.toList x.cps.toList = false := by
        rcases List.mem_cons.mp ((h z).mpr (List.mem_cons_self ..)) with k | k
        · rw [k]; exact self _
        · exact hx z k
      have e3 := lt_both_no _ _ e1 e2
      cases x
      cases z
      exact congrArg _ (Array.toList_inj.mp e3)
    subst e
    obtain ⟨n1, n2⟩ := List.nodup_cons.mp ny
    obtain ⟨m1, m2⟩ := List.nodup_cons.mp nz
    rw [sorted_one r t (rising_tail sy) (rising_tail sz) n2 m2 fun u => ⟨fun k => ?_, fun k => ?_⟩]
    · rcases List.mem_cons.mp ((h u).mp (List.mem_cons_of_mem _ k)) with e | e
      · exact absurd (e ▸ k) n1
      · exact e
    · rcases List.mem_cons.mp ((h u).mpr (List.mem_cons_of_mem _ k)) with e | e
      · exact absurd (e ▸ k) m1
      · exact e


end My
namespace My
open PySem PySem.Spec PyProof.Rows L2 TL
/-! ### for i, x in enumerate(t), t a tuple -/
section
open PySem
set_option maxHeartbeats 1000000 in
theorem meets_enumerate_new1 {v : Value} {o : Obj} {H : Heap → Prop} (B : PySem.Begins v o H) :
    Meets (Builtin.«enumerate.__new__» ⟨[.type "enumerate", v], []⟩) (fun _ R s => H s.heap ∧
      R (.ok (.ret (.ref (s.heap.push o).objs.size))) { s with heap := (s.heap.push o).push { cls := .type "enumerate", data := .fields #[.none, .bool false, .ref s.heap.objs.size, rawInt 0, .none, .none] } }) :=
  .of_wp fun prog w A R s h => by
    obtain ⟨hp, g, d, tk, os⟩ := s; obtain ⟨h1, h⟩ := h
    have hsub := sub_enumerate
    have q1 : ∀ {A' : Around} {E : Value → Shared → Prop} {Q : Value → Shared → Prop}, Q (.ref hp.objs.size) ⟨hp.push o, g, d, tk, os⟩ → wpAny (model prog w) A' (pyIter v) Q E ⟨hp, g, d, tk, os⟩ :=
      fun q => B.iter prog w _ _ ⟨hp, g, d, tk, os⟩ _ h1 q
    wp_walk using q1
    refine wpAny_stack_any fun st => wpAny_pure ?_
    split
    · rename_i c _ _ _ _ _
      cases (c == Value.type "enumerate")
      · wp_walk using q1
        exact ⟨_, rfl, h⟩
      · wp_walk using q1
        exact ⟨_, rfl, h⟩
    · wp_walk using q1
      exact ⟨_, rfl, h⟩
theorem enum_begins1 {prog : Program} {w : World} {A : Around} {E : Value → Shared → Prop} {s : Shared} {v : Value} {o : Obj} {H : Heap → Prop} {Q : Value → Shared → Prop} (B : PySem.Begins v o H) (h1 : H s.heap)
    (h : ∀ h', IsEnum h' (s.heap.objs.size + 1) s.heap.objs.size 0 .none → h'.get? s.heap.objs.size = some o → h'.objs.size = s.heap.objs.size + 2 →
      (∀ b o, s.heap.get? b = some o → h'.get? b = some o) → Q (.ref (s.heap.objs.size + 1)) { s with heap := h' }) :
    wpAny (model prog w) A (call (.type "enumerate") [v]) Q E s := by
  refine callType_new F.called_enumerate (by decide) (F.typeCall_enumerate_1 _) (F.newCall_enumerate_1 _) (fun obj => F.args_object_init_2 obj _) F.entry_enumerate_new
    (meets_enumerate_new1 B) ⟨h1, ?_⟩
  have hz : (s.heap.push o).objs.size = s.heap.objs.size + 1 := Heap.size_push ..
  show _ ∧ _
  rw [hz]
  have he : IsEnum ((s.heap.push o).push { cls := .type "enumerate", data := .fields #[.none, .bool false, .ref s.heap.objs.size, rawInt 0, .none, .none] }) (s.heap.objs.size + 1) s.heap.objs.size 0 .none := by
    have := Heap.get?_push_size (s.heap.push o) (o := { cls := .type "enumerate", data := .fields #[.none, .bool false, .ref s.heap.objs.size, rawInt 0, .none, .none] }) rfl
    rw [hz] at this; exact this
  refine ⟨⟨_, he, rfl⟩, h _ he (Heap.get?_push_of_some _ (Heap.get?_push_size _ B.free)) (by rw [Heap.size_push, hz]) fun b o x => Heap.get?_push_of_some _ (Heap.get?_push_of_some _ x)⟩
end
/-- the tuple at a, each item in a new pair -/
def Itet (K : PySem.W.Frag) (a : Addr) : It :=
  ⟨fun i H => ∃ (xs : List V) (x : V), SqT K H a xs ∧ xs[i]? = some x, fun i H v H' => ∃ T x, v = .ref T ∧ H T = none ∧ H' = upd H T (.tup [.int (i : Nat), x]) ∧ ∀ xs, SqT K H a xs → xs[i]? = some x, fun i H => ∃ xs : List V, SqT K H a xs ∧ xs.length = i⟩
theorem turn_enumT {P : Program} {w : World} {K : PySem.W.Frag} {elts : List Expr} {kk : Nat} {tpos : PySem.Pos} (a e it : Addr) :
    Turn P w K (.Tuple elts kk tpos) (Itet K a) [e, it] e (fun i h => (∃ old, IsEnum h e it ((i : Nat) : Int) old) ∧ h.IsTupleIter it a i ∧ e ≠ it) where
  mem := by simp
  obj := fun i h st b hb => by
    obtain ⟨⟨old, he⟩, ⟨o, ho, hc, hd⟩, _⟩ := st
    have e' : b = e ∨ b = it := by simpa using hb
    rcases e' with z | z
    · rw [z]; exact ⟨_, he, fun v q => nomatch q⟩
    · rw [z]; exact ⟨o, ho, fun v q => by rw [hd] at q; cases q⟩
  keep := fun i h h' st k => let ⟨⟨old, he⟩, hi, hne⟩ := st; ⟨⟨old, k e (by simp) _ he⟩, hi.at fun o q => k it (by simp) o q, hne⟩
  item := by
    intro X hP hw hK hc i pins s σ H E I hf st hg
    subst hP hw hK
    obtain ⟨⟨old, he⟩, hit, hne⟩ := st
    obtain ⟨xs, x, hq, hx⟩ := hg
    obtain ⟨its, rv, p, hz⟩ := I.tuple hq
    obtain ⟨u, hu, ru⟩ := rv.get hx
    have hel : e < s.heap.objs.size := Heap.lt_size he
    have hil : it < s.heap.objs.size := by obtain ⟨_, q, _⟩ := hit; exact Heap.lt_size q
    have hae : a ≠ e := fun z => by
      obtain ⟨o, ho, hc1, _⟩ := id p
      rw [z] at ho
      have e1 := Option.some.inj (ho.symm.trans he)
      rw [e1] at hc1
      exact absurd (Value.type.inj hc1) (by decide)
    have hai : a ≠ it := fun z => by
      obtain ⟨o, ho, hc1, _⟩ := id p
      obtain ⟨o2, ho2, hc2, _⟩ := id hit
      rw [z] at ho
      have e1 := Option.some.inj (ho.symm.trans ho2)
      rw [← e1, hc1] at hc2
      exact absurd (Value.type.inj hc2) (by decide)
    have D := Draws.tuple (prog := X.prog) (w := X.w) (A := X.A.in1) (show X.A.in1.handled = none from I.ok.hd hc) it a hai its.toArray
    have li : i < its.toArray.size := by
      have := (List.getElem?_eq_some_iff.mp hu).1
      simpa using this
    refine wpAny_pyNext_enum_itemD D he ⟨hit, p⟩ li hne (by simp only [List.mem_cons, List.not_mem_nil, or_false, not_or]; exact ⟨hne, hae.symm⟩) fun y h' tk hy ho hit' hT hsz hk => ?_
    have eu : y = u := by
      have : its[i]? = some y := by simpa using hy
      rw [hu] at this
      exact (Option.some.inj this).symm
    subst eu
    refine ⟨_, rfl, wpAny_letOwnedTupleGo_enum (s := { s with heap := h', toks := tk + 1 }) ho fun h'' he' sb => ?_⟩
    have hT2 : h''.get? s.heap.objs.size = some { cls := .type "tuple", data := .seq #[.int i tk, y] } := (sb.2 _ (Nat.ne_of_gt hel)).trans hT
    have new : ObjOk X.prog X.w (upd H s.heap.objs.size (.tup [.int (i : Nat), x])) h'' s.heap.objs.size (.tup [.int (i : Nat), x]) :=
      ⟨by show 2 ≤ sizeLine; decide, [.int i tk, y], .cons ⟨_, rfl⟩ (.cons ru .nil), ⟨_, hT2, rfl, _, rfl⟩⟩
    have I1 : Inv X pins σ (upd H s.heap.objs.size (.tup [.int (i : Nat), x])) { s with heap := h'', toks := tk + 1 } :=
      I.turnedNew (ch := [e, it]) (fun b ob hb q => (sb.2 b (fun z => hb (by simp [z]))).trans (hk b ob (fun z => hb (by simp [z])) (fun z => hb (by simp [z])) q)) hf (Nat.le_refl _) new
    refine ⟨.ref s.heap.objs.size, _, I1, rfl, ⟨_, x, rfl, I.hok.fresh (Nat.le_refl _), rfl, fun ys hy => by rw [I.tuple_inj hy hq]; exact hx⟩, ⟨⟨y, ?_⟩, hit'.1.at fun o q => (sb.2 it (Ne.symm hne)).trans q, hne⟩, fun b hb => ?_⟩
    · have e1 : ((i + 1 : Nat) : Int) = (i : Int) + 1 := by omega
      rw [e1]; exact he'
    · have hb' : b < s.heap.objs.size := by
        have e' : b = e ∨ b = it := by simpa using hb
        rcases e' with z | z
        · rw [z]; exact hel
        · rw [z]; exact hil
      rw [upd_ne (Nat.ne_of_lt hb')]
      exact (hf b hb).1
  done := by
    intro X hP hw hK hc i pins s σ H E I hf st hg
    subst hP hw hK
    obtain ⟨⟨old, he⟩, hit, hne⟩ := st
    obtain ⟨xs, hq, hx⟩ := hg
    obtain ⟨its, rv, p, hz⟩ := I.tuple hq
    obtain ⟨f0, f1, f2, f3, f4, f5⟩ := hf it (by simp)
    have hl := rv.length
    have hae : a ≠ e := fun z => by
      obtain ⟨o, ho, hc1, _⟩ := id p
      rw [z] at ho
      have e1 := Option.some.inj (ho.symm.trans he)
      rw [e1] at hc1
      exact absurd (Value.type.inj hc1) (by decide)
    have hai : a ≠ it := fun z => by
      obtain ⟨o, ho, hc1, _⟩ := id p
      obtain ⟨o2, ho2, hc2, _⟩ := id hit
      rw [z] at ho
      have e1 := Option.some.inj (ho.symm.trans ho2)
      rw [← e1, hc1] at hc2
      exact absurd (Value.type.inj hc2) (by decide)
    have D := Draws.tuple (prog := X.prog) (w := X.w) (A := X.A.in1) (show X.A.in1.handled = none from I.ok.hd hc) it a hai its.toArray
    have hit2 : s.heap.IsTupleIter it a its.toArray.size := by
      rw [show its.toArray.size = i by simp; omega]
      exact hit
    exact wpAny_pyNext_enum_endD D he ⟨hit2, p⟩ fun h' eb => ⟨rfl, I.turned (t' := s.toks) (fun b o hb q => eb b o hb q) f0 f1 f3 f4 f5⟩
  self := fun A i s Q E st h => let ⟨⟨_, he⟩, _⟩ := st; wpAny_pyIter_enum he h
def iEnumT (K : PySem.W.Frag) (ta : TA) : TI := fun σ H R => ta σ H fun vs H1 => ∃ a xs, vs = [.ref a] ∧ SqT K H1 a xs ∧ R (Itet K a) H1
theorem pi_enumT {X : Cx} {e : Expr} {ta : TA} {p pos tpos : PySem.Pos} {elts : List Expr} {kk : Nat} (hg : Gl X "enumerate") (hm : X.mg "enumerate" = none) (ha : PA X [e] ta) (hs : starEach [e] X.env = [(false, eval e X.env)] := by rfl) :
    PI X (.Tuple elts kk tpos) (.Call (.Name "enumerate" p) [e] [] pos) (iEnumT X.K ta) := by
  refine ⟨fun pins s σ H R I h => ?_⟩
  refine Call_ (ld_blt I hg hm boot_enumerate (PyProof.Rows.callWith_type1 (thn (ha.run pos pins s σ H _ I h) fun us s1 ⟨vs, H1, I1, r1, q1⟩ => ?_) hs rfl))
  obtain ⟨a, xs, ex, hq, q⟩ := q1
  subst ex
  cases r1 with
  | cons r rr =>
    cases rr
    cases r
    obtain ⟨its, rv, p', hz⟩ := I1.tuple hq
    refine enum_begins1 (begins_tuple a its.toArray) p' fun h' he hit hsz hk => wpAny_pyIter_enum he ?_
    have I2 : Inv X pins σ H1 { s1 with heap := h' } := I1.kept (t' := s1.toks) hk
    refine ⟨s1.heap.objs.size + 1, [s1.heap.objs.size + 1, s1.heap.objs.size], _, _, H1, rfl, I2, turn_enumT a (s1.heap.objs.size + 1) s1.heap.objs.size, ⟨⟨.none, he⟩, ⟨_, hit, rfl, rfl⟩, Nat.succ_ne_self _⟩, fun b hb => ?_, q⟩
    have e' : b = s1.heap.objs.size + 1 ∨ b = s1.heap.objs.size := by simpa using hb
    have hle : s1.heap.objs.size ≤ b := by
      rcases e' with z | z
      · rw [z]; exact Nat.le_add_right _ _
      · rw [z]; exact Nat.le_refl _
    exact I1.fpOk hle (I1.hok.fresh hle)
theorem for_enumT {K : PySem.W.Frag} {a : Addr} {xs : List V} {g : TG} {tb : TS} {D : Ends} {σ : L2.St} {H : Hp} (Pv : Nat → L2.St → Hp → Prop) (h0 : Pv 0 σ H) (hl : ∀ i σ H, i ≤ xs.length → Pv i σ H → SqT K H a xs)
    (hs : ∀ i x σ H T, xs[i]? = some x → Pv i σ H → H T = none → g (.ref T) σ (upd H T (.tup [.int (i : Nat), x])) fun σ2 H2 => tb { D with nx := Pv (i + 1), ct := Pv (i + 1), bk := D.nx } σ2 H2) (hd : ∀ σ H, Pv xs.length σ H → D.nx σ H) :
    ∃ W : Nat → Nat → L2.St → Hp → Prop, (∃ m, W 0 m σ H) ∧ ∀ i m σ H, W i m σ H →
      ((Itet K a).stop i H ∧ D.nx σ H) ∨ ((Itet K a).go i H ∧ ∃ N : L2.St → Hp → Prop, (∀ σ' H', N σ' H' → ∃ m', m' < m ∧ W (i + 1) m' σ' H') ∧ ∀ x H', (Itet K a).yld i H x H' → g x σ H' fun σ2 H2 => tb { D with nx := N, ct := N, bk := D.nx } σ2 H2) := by
  refine ⟨fun i m σ H => m = xs.length - i ∧ i ≤ xs.length ∧ Pv i σ H, ⟨xs.length, by simp, Nat.zero_le _, h0⟩, ?_⟩
  rintro i m σ H ⟨rfl, hi, p⟩
  have q := hl i σ H hi p
  by_cases hlt : i < xs.length
  · refine .inr ⟨⟨xs, xs[i], q, by simp [hlt]⟩, Pv (i + 1), fun σ' H' p' => ⟨xs.length - (i + 1), by omega, rfl, hlt, p'⟩, fun x H' y => ?_⟩
    obtain ⟨T, z, rfl, hT, rfl, y⟩ := y
    exact hs i z σ H T (y xs q) p hT
  · have e : i = xs.length := by omega
    subst e
    exact .inl ⟨⟨xs, q, rfl⟩, hd σ H p⟩

/-- a comprehension over enumerate of a tuple -/
theorem lc_enumT {K : PySem.W.Frag} {a : Addr} {xs : List V} {g : TG} {tt : TT} {te : TE} {vs : List Nat} {σ : L2.St} {H1 : Hp} {D : Addr} {Qd : Hp → Prop} (Pv : Nat → Hp → Prop) (h0 : Pv 0 (upd H1 D (.lst []))) (hl : ∀ i H, i ≤ xs.length → Pv i H → SqT K H a xs)
    (hs : ∀ i x H T, xs[i]? = some x → Pv i H → H T = none → g (.ref T) (wipe σ vs) (upd H T (.tup [.int (i : Nat), x])) fun σ2 H2 => wipe σ2 vs = wipe σ vs ∧ tt σ2 H2 fun b H3 =>
      if b = true then te σ2 H3 fun y H4 => ∃ acc, H4 D = some (.lst acc) ∧ acc.length < sizeLine ∧ Pv (i + 1) (upd H4 D (.lst (acc ++ [y]))) else Pv (i + 1) H3) (hd : ∀ H, Pv xs.length H → Qd H) :
    ∃ W : Nat → Nat → Hp → Prop, (∃ m, W 0 m (upd H1 D (.lst []))) ∧ ∀ i m H, W i m H →
      ((Itet K a).stop i H ∧ Qd H) ∨ ((Itet K a).go i H ∧ ∃ Nx : Hp → Prop, (∀ H', Nx H' → ∃ m', m' < m ∧ W (i + 1) m' H') ∧ ∀ x H', (Itet K a).yld i H x H' → g x (wipe σ vs) H' fun σ2 H2 => wipe σ2 vs = wipe σ vs ∧ tt σ2 H2 fun b H3 =>
        if b = true then te σ2 H3 fun y H4 => ∃ acc, H4 D = some (.lst acc) ∧ acc.length < sizeLine ∧ Nx (upd H4 D (.lst (acc ++ [y]))) else Nx H3) := by
  refine ⟨fun i m H => m = xs.length - i ∧ i ≤ xs.length ∧ Pv i H, ⟨xs.length, by simp, Nat.zero_le _, h0⟩, ?_⟩
  rintro i m H ⟨rfl, hi, p⟩
  have q := hl i H hi p
  by_cases hlt : i < xs.length
  · refine .inr ⟨⟨xs, xs[i], q, by simp [hlt]⟩, Pv (i + 1), fun H' p' => ⟨xs.length - (i + 1), by omega, rfl, hlt, p'⟩, fun x H' y => ?_⟩
    obtain ⟨T, z, rfl, hT, rfl, y⟩ := y
    exact hs i z H T (y xs q) p hT
  · have e : i = xs.length := by omega
    subst e
    exact .inl ⟨⟨xs, q, rfl⟩, hd H p⟩


end My
namespace My
open PySem PySem.Spec PyProof.Rows L2 TL
/-! ### rows of worlds and of atoms: what a room is -/
def VI (r : List Nat) : List V := r.map fun n => V.int (n : Nat)
def ltS (a b : Str) : Prop := a.cps.toList < b.cps.toList
instance (a b : Str) : Decidable (ltS a b) := inferInstanceAs (Decidable (a.cps.toList < b.cps.toList))
def ltV : V → V → Bool
  | .int i, .int j => decide (i < j)
  | .str a, .str b => decide (ltS a b)
  | _, _ => false
/-- neighbours compared -/
def prsB : List V → List Bool
  | x :: y :: r => ltV x y :: prsB (y :: r)
  | _ => []
def ascB (xs : List V) : Bool := (prsB xs).all id
theorem prs_len : ∀ xs : List V, (prsB xs).length = xs.length - 1
  | [] => rfl
  | [_] => rfl
  | x :: y :: r => by
    show (prsB (y :: r)).length + 1 = _
    rw [prs_len (y :: r)]
    rfl
theorem prs_at : ∀ {xs : List V} {i : Nat} {x y : V}, xs[i]? = some x → xs[i + 1]? = some y → (prsB xs)[i]? = some (ltV x y)
  | [], _, _, _, h, _ => nomatch h
  | [_], i, _, _, _, h => by cases i <;> cases h
  | a :: b :: r, 0, x, y, h1, h2 => by
    cases h1
    cases h2
    rfl
  | a :: b :: r, i + 1, x, y, h1, h2 => prs_at (xs := b :: r) (i := i) h1 h2
theorem asc_ints : ∀ r : List Nat, ascB (VI r) = true ↔ r.Pairwise (· < ·)
  | [] => by simp [VI, ascB, prsB]
  | [x] => by simp [VI, ascB, prsB]
  | x :: y :: r => by
    have e : ascB (VI (x :: y :: r)) = (decide ((x : Int) < (y : Int)) && ascB (VI (y :: r))) := rfl
    rw [e, Bool.and_eq_true_iff, asc_ints (y :: r), decide_eq_true_iff]
    constructor
    · rintro ⟨h1, h2⟩
      refine List.pairwise_cons.mpr ⟨fun z hz => ?_, h2⟩
      rcases List.mem_cons.mp hz with rfl | hz
      · omega
      · have := (List.pairwise_cons.mp h2).1 z hz
        omega
    · intro h
      obtain ⟨h1, h2⟩ := List.pairwise_cons.mp h
      exact ⟨by have := h1 y List.mem_cons_self; omega, h2⟩
theorem ltS_trans {a b c : Str} (h1 : ltS a b) (h2 : ltS b c) : ltS a c := List.lt_trans h1 h2
theorem asc_strs : ∀ ws : List Str, ascB (ws.map V.str) = true ↔ ws.Pairwise ltS
  | [] => by simp [ascB, prsB]
  | [x] => by simp [ascB, prsB]
  | x :: y :: r => by
    have e : ascB ((x :: y :: r).map V.str) = (decide (ltS x y) && ascB ((y :: r).map V.str)) := rfl
    rw [e, Bool.and_eq_true_iff, asc_strs (y :: r), decide_eq_true_iff]
    constructor
    · rintro ⟨h1, h2⟩
      refine List.pairwise_cons.mpr ⟨fun z hz => ?_, h2⟩
      rcases List.mem_cons.mp hz with rfl | hz
      · exact h1
      · exact ltS_trans h1 ((List.pairwise_cons.mp h2).1 z hz)
    · intro h
      obtain ⟨h1, h2⟩ := List.pairwise_cons.mp h
      exact ⟨h1 y List.mem_cons_self, h2⟩
/-! bits -/
def bitsN (r : List Nat) : Nat := (r.map fun n => 2 ^ n).sum
theorem bits_high {x : Nat} : ∀ {r : List Nat}, (∀ y ∈ r, x < y) → ∃ k, bitsN r = 2 ^ (x + 1) * k
  | [], _ => ⟨0, rfl⟩
  | y :: r, h => by
    obtain ⟨k, hk⟩ := bits_high (r := r) fun z hz => h z (List.mem_cons_of_mem _ hz)
    have lt := h y List.mem_cons_self
    refine ⟨2 ^ (y - (x + 1)) + k, ?_⟩
    show 2 ^ y + bitsN r = _
    rw [hk, Nat.mul_add, ← Nat.pow_add, show x + 1 + (y - (x + 1)) = y by omega]
theorem bits_test : ∀ {r : List Nat}, r.Pairwise (· < ·) → ∀ j, (bitsN r).testBit j = decide (j ∈ r)
  | [], _, j => by
    show (0 : Nat).testBit j = _
    simp
  | x :: r, h, j => by
    obtain ⟨h1, h2⟩ := List.pairwise_cons.mp h
    obtain ⟨k, hk⟩ := bits_high h1
    have ih := bits_test h2 j
    have lt : 2 ^ x < 2 ^ (x + 1) := Nat.pow_lt_pow_right (by decide) (by omega)
    have e : bitsN (x :: r) = 2 ^ (x + 1) * k + 2 ^ x := by
      show 2 ^ x + bitsN r = _
      rw [hk, Nat.add_comm]
    have e2 : bitsN r = 2 ^ (x + 1) * k + 0 := hk
    rw [e, Nat.testBit_two_pow_mul_add k lt]
    rw [e2, Nat.testBit_two_pow_mul_add k (Nat.two_pow_pos _)] at ih
    by_cases hj : j < x + 1
    · rw [if_pos hj, Nat.testBit_two_pow]
      have no : j ∉ r := fun m => by have := h1 j m; omega
      by_cases e : x = j
      · simp [e]
      · simp [e, no, Ne.symm e]
    · rw [if_neg hj] at ih ⊢
      rw [ih]
      have ne : j ≠ x := by omega
      simp [ne]
theorem or_iff {a b : Nat} : a ||| b = b ↔ ∀ j, a.testBit j = true → b.testBit j = true := by
  constructor
  · intro h j ha
    rw [← h, Nat.testBit_or, ha, Bool.true_or]
  · intro h
    refine Nat.eq_of_testBit_eq fun j => ?_
    rw [Nat.testBit_or]
    cases ha : a.testBit j with
    | false => rw [Bool.false_or]
    | true => rw [h j ha, Bool.true_or]
/-- what is asked of one world -/
def plB (w : Nat) (r : List Nat) (as : List Nat) : Bool := (decide (w ∈ r) && r.all fun o => decide ((as.getD o 0) ||| (as.getD w 0) = as.getD w 0)) && !((r.filter fun o => decide (o ≠ w)).any fun o => (as.getD o 0).testBit w)
def OrdP (rs : List (List Nat)) : Prop := (1 ≤ rs.length ∧ rs.length ≤ 60) ∧ (∀ row ∈ rs, row.Pairwise (· < ·) ∧ ∀ n ∈ row, n < rs.length) ∧
  ∀ (w : Nat) (row : List Nat), rs[w]? = some row → w ∈ row ∧ ∀ o ∈ row, ∀ ro, rs[o]? = some ro → (∀ x ∈ ro, x ∈ row) ∧ (o ≠ w → w ∉ ro)
theorem getD_bits {rs : List (List Nat)} {o : Nat} {ro : List Nat} (h : rs[o]? = some ro) : (rs.map bitsN).getD o 0 = bitsN ro := by
  rw [List.getD_eq_getElem?_getD, List.getElem?_map, h]
  rfl
theorem pl_iff {rs : List (List Nat)} (asc : ∀ row ∈ rs, row.Pairwise (· < ·) ∧ ∀ n ∈ row, n < rs.length) {w : Nat} {row : List Nat} (hw : rs[w]? = some row) :
    plB w row (rs.map bitsN) = true ↔ (w ∈ row ∧ ∀ o ∈ row, ∀ ro, rs[o]? = some ro → (∀ x ∈ ro, x ∈ row) ∧ (o ≠ w → w ∉ ro)) := by
  have am : ∀ {o : Nat} {ro : List Nat}, rs[o]? = some ro → ro.Pairwise (· < ·) := fun h => (asc _ (List.mem_of_getElem? h)).1
  have there : ∀ o ∈ row, ∃ ro, rs[o]? = some ro := fun o ho => ⟨_, List.getElem?_eq_getElem ((asc row (List.mem_of_getElem? hw)).2 o ho)⟩
  unfold plB
  rw [Bool.and_eq_true_iff, Bool.and_eq_true_iff, decide_eq_true_iff, List.all_eq_true, Bool.not_eq_true', List.any_eq_false]
  constructor
  · rintro ⟨⟨h1, h2⟩, h3⟩
    refine ⟨h1, fun o ho ro hr => ⟨fun x hx => ?_, fun ne m => ?_⟩⟩
    · have z := of_decide_eq_true (h2 o ho)
      rw [getD_bits hr, getD_bits hw, or_iff] at z
      have z2 := z x (by rw [bits_test (am hr)]; exact decide_eq_true hx)
      rw [bits_test (am hw)] at z2
      exact of_decide_eq_true z2
    · have z := h3 o (List.mem_filter.mpr ⟨ho, decide_eq_true ne⟩)
      rw [getD_bits hr, bits_test (am hr)] at z
      exact z (decide_eq_true m)
  · rintro ⟨h1, h2⟩
    refine ⟨⟨h1, fun o ho => decide_eq_true ?_⟩, fun o ho z => ?_⟩
    · obtain ⟨ro, hr⟩ := there o ho
      rw [getD_bits hr, getD_bits hw, or_iff]
      intro j hj
      rw [bits_test (am hr)] at hj
      rw [bits_test (am hw)]
      exact decide_eq_true ((h2 o ho ro hr).1 j (of_decide_eq_true hj))
    · obtain ⟨ho, ne⟩ := List.mem_filter.mp ho
      obtain ⟨ro, hr⟩ := there o ho
      rw [getD_bits hr, bits_test (am hr)] at z
      exact (h2 o ho ro hr).2 (of_decide_eq_true ne) (of_decide_eq_true z)
/-- one row, whatever it is -/
def rowB (m : Nat) : Option (List Nat) → Bool
  | some r => (r.all fun n => decide (n < m)) && ascB (VI r)
  | none => false
theorem rows_some {m : Nat} : ∀ {o : List (Option (List Nat))}, o.all (rowB m) = true → ∃ rs : List (List Nat), o = rs.map some ∧ ∀ row ∈ rs, row.Pairwise (· < ·) ∧ ∀ n ∈ row, n < m
  | [], _ => ⟨[], rfl, fun _ h => nomatch h⟩
  | none :: o, h => by cases h
  | some r :: o, h => by
    obtain ⟨h1, h2⟩ := Bool.and_eq_true_iff.mp (show (rowB m (some r) && o.all (rowB m)) = true from h)
    obtain ⟨rs, rfl, h3⟩ := rows_some h2
    obtain ⟨h4, h5⟩ := Bool.and_eq_true_iff.mp h1
    refine ⟨r :: rs, rfl, fun row hr => ?_⟩
    rcases List.mem_cons.mp hr with rfl | hr
    · exact ⟨(asc_ints _).mp h5, fun n hn => of_decide_eq_true (List.all_eq_true.mp h4 n hn)⟩
    · exact h3 row hr
theorem rows_all {m : Nat} {rs : List (List Nat)} (h : ∀ row ∈ rs, row.Pairwise (· < ·) ∧ ∀ n ∈ row, n < m) : (rs.map some).all (rowB m) = true := by
  rw [List.all_map, List.all_eq_true]
  intro row hr
  obtain ⟨h1, h2⟩ := h row hr
  show ((row.all fun n => decide (n < m)) && ascB (VI row)) = true
  rw [Bool.and_eq_true_iff]
  exact ⟨List.all_eq_true.mpr fun n hn => decide_eq_true (h2 n hn), (asc_ints row).mpr h1⟩
def OrdO (o : Option (List (Option (List Nat)))) : Prop := ∃ rs, o = some (rs.map some) ∧ OrdP rs


end My
namespace My
open PySem PySem.Spec PyProof.Rows L2 TL
/-! ### set(x), x a list of ints; zip of two tuples -/
section
open PySem.Froz
variable {P : Program} {w : World} {A : Around} {E : Value → Shared → Prop} {s : Shared}
theorem set_lstI {l : Addr} {items : Array Value} {ks : List Int} {Q : Value → Shared → Prop} (hh : A.handled = none) (hl : s.heap.IsList l items) (hi : IntsAre items.toList ks) (few : ks.length + 1 < scanBound)
    (h : ∀ (h' : Heap) (tk : Nat) c, SetR w h' s.heap.objs.size (fun j => decide (j ∈ ks)) c → c ≤ ks.length → (∀ b o, s.heap.get? b = some o → h'.get? b = some o) → Q (.ref s.heap.objs.size) { s with heap := h', toks := tk }) :
    wpAny (model P w) A (call (.type "set") [.ref l]) Q E s := by
  obtain ⟨⟨ocls, odict, odata, oslots⟩, hol, hcl, ⟨nl, hdl⟩⟩ := hl
  simp only at hcl hdl
  subst hcl
  subst hdl
  have hS : (s.heap.push (freshSet w)).get? s.heap.objs.size = some (freshSet w) := Heap.get?_push_size _ rfl
  have hT : Shared.TypeIs { s with heap := s.heap.push (freshSet w) } (.ref s.heap.objs.size) "set" := ⟨_, hS, rfl⟩
  have hol' : (s.heap.push (freshSet w)).get? l = some { cls := .type "list", dict := odict, data := .seq items nl, slots := oslots } := Heap.get?_push_of_some _ hol
  have hl1 : (s.heap.push (freshSet w)).IsList l items := ⟨_, hol', rfl, nl, rfl⟩
  refine set_call (R := fun s2 => ∃ h' tk c, s2 = { s with heap := h', toks := tk } ∧ SetR w h' s.heap.objs.size (fun j => decide (j ∈ ks)) c ∧ c ≤ ks.length ∧ ∀ b o, s.heap.get? b = some o → h'.get? b = some o) (.ref l) (codeAny_call_builtin F.called_set.init.plain F.entry_set_init (check_set_init_1 hT ?_)) fun s2 ⟨h', tk, c, e, q1, q2, q4⟩ => by rw [e]; exact h h' tk c q1 q2 q4
  have hsls := F.sub_list_set
  have hslf := F.sub_list_frozenset
  have hne : (Value.type "list" == Value.type "dict") = false := by decide
  unfold Builtin.«set.__init__» noKeywords Builtin.Frozenset.updateFrom
  generalize hPI : pyIter = PI
  wp_walk
  subst hPI
  refine wpAny_pyIter_list hl1 ?_
  refine wpAny_bind (wpAny_runValue ?_)
  have hlS : l < s.heap.objs.size := Heap.lt_size hol
  have sz : (s.heap.push (freshSet w)).objs.size = s.heap.objs.size + 1 := Heap.size_push ..
  have ln : items.size = ks.length := by
    have q := IntsAre.length hi
    rw [Array.length_toList] at q
    exact q
  have each : ∀ (i : Nat) (v : Value), items[i]? = some v → ∃ k t, ks[i]? = some k ∧ v = .int k t := fun i v hv => by
    have lt : i < ks.length := by rw [← ln]; exact (Array.getElem?_eq_some_iff.mp hv).1
    obtain ⟨t, e⟩ := PyProof.Rows.IntsAre.int_at hi i v (by rw [Array.getElem?_toList]; exact hv)
    exact ⟨ks[i], t, List.getElem?_eq_getElem lt, by rw [e, List.getD_eq_getElem?_getD, List.getElem?_eq_getElem lt] <;> rfl⟩
  refine set_update_ints ((Walks.list (by simp [hh]) _ l (by rw [sz]; exact Nat.ne_of_lt (Nat.lt_succ_of_lt hlS)) items).toS) s.heap.objs.size ?_ ks ln few each (items.size - 0) 0 _ (by omega) (Nat.zero_le _)
    ⟨⟨_, Heap.get?_push_size _ rfl, rfl, rfl⟩, hl1.push _⟩ ⟨0, Nat.le_refl 0, setR_new_at (Heap.get?_push_of_some _ hS)⟩ fun s' c mv hL hS' => ?_
  · rw [sz]
    simp only [List.mem_cons, List.not_mem_nil, or_false, not_or]
    exact ⟨Nat.ne_of_lt (Nat.lt_succ_self _), Nat.ne_of_gt hlS⟩
  · obtain ⟨h', g2, d', tk', os'⟩ := s'
    have eg : g2 = s.gens := mv.gens
    have ed : d' = s.drawn := mv.drawn
    have eo : os' = s.os := mv.os
    subst eg
    subst ed
    subst eo
    show wpAny _ _ _ _ _ _
    refine wpAny_pure ?_
    show wpAny _ _ (ret Value.none) _ _ _
    refine wpAny_pure ⟨rfl, h', tk', c, rfl, hS', by omega, fun b o e => ?_⟩
    have hb : b < s.heap.objs.size := Heap.lt_size e
    refine mv.heap b o ?_ (Heap.get?_push_of_some _ (Heap.get?_push_of_some _ e))
    simp only [List.mem_cons, List.not_mem_nil, or_false, not_or]
    exact ⟨Nat.ne_of_lt hb, by show b ≠ (s.heap.push (freshSet w)).objs.size; rw [sz]; exact Nat.ne_of_lt (Nat.lt_succ_of_lt hb)⟩
end
section
variable {X : Cx}
/-- set(x), x a list of ints -/
def rSetLI (K : PySem.W.Frag) (w : World) : List V → Hp → VK → Prop := fun xs H Q => ∃ (l : Addr) (ks : List Int), xs = [V.ref l] ∧ SqL K H l (ks.map V.int) ∧ ks.length < 64 ∧
  ∀ a c, H a = none → c ≤ ks.length → Q (.ref a) (upd H a (SetO w a (fun j => decide (j ∈ ks)) c))
theorem cr_setLI (hc : X.calm = true) : CallR X (.type "set") (rSetLI X.K X.w) := by
  intro pins s σ H xs us Q I r h
  obtain ⟨l, ks, rfl, hl, hf, q⟩ := h
  rw [Vals.ref1 r]
  obtain ⟨its, rv, p, hz⟩ := I.list hl
  refine set_lstI (P := X.prog) (w := X.w) (ks := ks) (I.ok.hd hc) p.isList (by simpa using ints_of_vals rv) (by unfold scanBound; omega) fun h' tk c R hL k => ?_
  exact ⟨.ref s.heap.objs.size, upd H s.heap.objs.size (SetO X.w s.heap.objs.size (fun j => decide (j ∈ ks)) c), I.laid (t' := tk) k (Nat.le_refl _) (setO_new R), rfl, q _ c (I.hok.fresh (Nat.le_refl _)) hL⟩
end
section
variable {K : PySem.W.Frag} {a b : Addr} {xs ys : List V}
theorem walk_zipT {n : Nat} (hn : n = min xs.length ys.length) : Walk (RZ.ItzT K a b) n (fun H => SqT K H a xs ∧ SqT K H b ys) (YPair (fun i => xs[i]?) (fun i => ys[i]?)) where
  goes := fun i H lt ⟨p, q⟩ => ⟨xs, ys, xs[i]'(by omega), ys[i]'(by omega), p, q, List.getElem?_eq_getElem _, List.getElem?_eq_getElem _⟩
  stops := fun H ⟨p, q⟩ => ⟨xs, ys, p, q, by omega⟩
  yields := fun i H v H' _ ⟨p, q⟩ ⟨T, x, z, e, n, u, f, g⟩ => ⟨T, x, z, e, n, u, f xs p, g ys q⟩
end


end My
namespace My
open PySem PySem.Spec PyProof.Rows L2 TL
/-! ### a comprehension of three clauses, without tests -/
/-- what is walked, a turn told by BD, is walked to its end, where N holds -/
def tGo (J : It) (BD : V → Hp → (Hp → Prop) → Prop) (H : Hp) (N : Hp → Prop) : Prop := ∃ W : Nat → Nat → Hp → Prop, (∃ m, W 0 m H) ∧
  ∀ j m H1, W j m H1 → (J.stop j H1 ∧ N H1) ∨ (J.go j H1 ∧ ∃ N1 : Hp → Prop, (∀ H2, N1 H2 → ∃ m1, m1 < m ∧ W (j + 1) m1 H2) ∧ ∀ x H2, J.yld j H1 x H2 → BD x H2 N1)
theorem go_it {J : It} {n : Nat} {G : Hp → Prop} {Y : Nat → Hp → V → Hp → Prop} {BD : V → Hp → (Hp → Prop) → Prop} {H : Hp} {N : Hp → Prop} (w : Walk J n G Y) (Pv : Nat → Hp → Prop) (h0 : Pv 0 H) (hG : ∀ i H1, i ≤ n → Pv i H1 → G H1)
    (hs : ∀ i x H1 H2, i < n → Pv i H1 → Y i H1 x H2 → BD x H2 (Pv (i + 1))) (hd : ∀ H1, Pv n H1 → N H1) : tGo J BD H N := by
  refine ⟨fun j m H1 => (m = n - j ∧ j ≤ n) ∧ Pv j H1, ⟨n, ⟨by omega, Nat.zero_le _⟩, h0⟩, ?_⟩
  rintro j m H1 ⟨⟨rfl, le⟩, p⟩
  rcases Nat.lt_or_ge j n with lt | ge
  · exact .inr ⟨w.goes j H1 lt (hG j H1 le p), Pv (j + 1), fun H2 p2 => ⟨n - (j + 1), by omega, ⟨rfl, lt⟩, p2⟩, fun x H2 y => hs j x H1 H2 lt p (w.yields j H1 x H2 lt (hG j H1 le p) y)⟩
  · obtain rfl : j = n := by omega
    exact .inl ⟨w.stops H1 (hG j H1 le p), hd H1 p⟩
/-- a clause: its target is stored, then BR -/
def tCl (g : TG) (vs : List Nat) (BR : L2.St → Hp → (Hp → Prop) → Prop) (σ : L2.St) (x : V) (H : Hp) (N : Hp → Prop) : Prop := g x (wipe σ vs) H fun σ2 H2 => wipe σ2 vs = wipe σ vs ∧ BR σ2 H2 N
/-- what the last clause does: the item goes to the list at D -/
def tEl (te : TE) (D : Addr) : L2.St → Hp → (Hp → Prop) → Prop := fun σ H N => te σ H fun y H1 => ∃ acc, H1 D = some (.lst acc) ∧ acc.length < sizeLine ∧ N (upd H1 D (.lst (acc ++ [y])))
/-- an inner clause -/
def tIn (wi : TI) (g : TG) (vs : List Nat) (BR : L2.St → Hp → (Hp → Prop) → Prop) : L2.St → Hp → (Hp → Prop) → Prop := fun σ H N => wi σ H fun J H1 => tGo J (tCl g vs BR σ) H1 N
def tLc3 (w0 : TI) (g0 : TG) (w1 : TI) (g1 : TG) (w2 : TI) (g2 : TG) (te : TE) (v0 v1 v2 : List Nat) : TE := fun σ H Q => w0 σ H fun J H1 => ∀ D, H1 D = none → tGo J (tCl g0 v0 (tIn w1 g1 v1 (tIn w2 g2 v2 (tEl te D))) σ) (upd H1 D (.lst [])) (Q (.ref D))
/-- what a slot holds stays -/
def Kp (σ τ : L2.St) : Prop := σ.length = τ.length ∧ ∀ (j : Nat) v, σ[j]? = some (some v) → τ[j]? = some (some v)
theorem Kp.trans {a b c : L2.St} (x : Kp a b) (y : Kp b c) : Kp a c := ⟨x.1.trans y.1, fun j v e => y.2 j v (x.2 j v e)⟩
theorem Kp.wiped {σ τ : L2.St} {vs : List Nat} (e : wipe τ vs = wipe σ vs) : Kp (wipe σ vs) τ := ⟨by rw [← e, wipe_length], fun j v z => by rw [← e] at z; exact (wipe_some z).1⟩
theorem Kp.sub {σ : L2.St} {vs us : List Nat} (h : ∀ i ∈ us, i ∈ vs) : Kp (wipe σ vs) (wipe σ us) := ⟨by rw [wipe_length, wipe_length], fun j v z => by
  obtain ⟨e, n⟩ := wipe_some z
  rw [wipe_out fun m => n (h j m)]
  exact e⟩
theorem Kp.trans' {σ τ : L2.St} {vs us : List Nat} (x : Kp (wipe σ vs) τ) (h : ∀ i ∈ us, i ∈ vs) : Kp (wipe σ vs) (wipe τ us) := ⟨by rw [x.1, wipe_length], fun j v z => by
  rw [wipe_out fun m => (wipe_some z).2 (h j m)]
  exact x.2 j v z⟩
section
variable {B : Cx}
/-- one clause's loop, whatever stands behind its target -/
theorem clause_loop {elt : Expr} {gens : List Comprehension} {scope : Scope} {pos : Pos} {k : Nat} {tg iter : Expr} {acc : Value} {rest : Sem Fin} {J : It} {fp : List Addr} {it : Addr} {tn : Nat → Heap → Prop} {σ : L2.St} {pins : List (Addr × Obj)} {BD : V → Hp → (Hp → Prop) → Prop} {N : Hp → Prop} {R : Result → Shared → Prop}
    (hc : B.calm = true) (turn : compTurn (.ListComp elt gens scope pos) k (.ref it) acc B.env = (do
      standAt iter.pos
      match ← pyNext (.ref it) with
      | none => pure (.done .next)
      | some v => letOwnedTupleGo tg (.ref it) v; assign tg B.env v; rest))
    (T : Turn B.prog B.w B.K tg J fp it tn)
    (each : ∀ (pn : List (Addr × Obj)) (x : V) (u : Value) (H : Hp) (s : Shared) (N1 : Hp → Prop), Inv B (pins ++ pn) σ H s → RelV x u → BD x H N1 →
      wpAny (model B.prog B.w) B.A (assign tg B.env u) (fun _ s1 => wpAny (model B.prog B.w) B.A rest (fun f s2 => f = .again (.compLoop (.ListComp elt gens scope pos) k (.ref it) acc B.env) ∧ ∃ τ H1, Inv B (pins ++ pn) τ H1 s2 ∧ Kp σ τ ∧ N1 H1) (fun _ _ => False) s1) (fun _ _ => False) s)
    {H : Hp} {s : Shared} (I : Inv B pins σ H s) (st : tn 0 s.heap) (hf : ∀ b ∈ fp, FpOk B pins H b) (go : tGo J BD H N) (fin : ∀ s1 H1, Inv B pins σ H1 s1 → N H1 → R (.ok .next) s1) :
    codeAny (model B.prog B.w) B.A (.compLoop (.ListComp elt gens scope pos) k (.ref it) acc B.env) R s := by
  obtain ⟨W, ⟨m0, w0⟩, step⟩ := go
  have still : ∀ {H1 : Hp}, (∀ b ∈ fp, H1 b = none) → ∀ b ∈ fp, FpOk B pins H1 b := fun n b hb => ⟨n b hb, (hf b hb).2⟩
  refine codeAny_loop rfl (fun n s1 => ∃ j H1, (Inv B pins σ H1 s1 ∧ tn j s1.heap) ∧ (∀ b ∈ fp, H1 b = none) ∧ W j n H1) (fun n s1 hI => ?_) m0 ⟨0, H, ⟨I, st⟩, fun b hb => (hf b hb).1, w0⟩
  obtain ⟨j, H1, ⟨I1, t1⟩, n1, w1⟩ := hI
  show wpAny _ B.A ((compTurn (.ListComp elt gens scope pos) k (.ref it) acc B.env).onRaise (fun x => do noteFrame x B.env; theTreesLotGoes x)) _ _ s1
  refine wpAny_noted ?_
  rw [turn]
  refine wpAny_bind (wpAny_standAt (wpAny_bind ?_))
  rcases step j n H1 w1 with ⟨stop, d⟩ | ⟨gone, N1, less, yld⟩
  · refine thnF (T.done B rfl rfl rfl hc j pins s1 σ H1 (fun _ _ => False) I1 (still n1) t1 stop) fun r s2 ⟨hr, I2⟩ => ?_
    subst hr
    exact wpAny_pure (fin s2 H1 I2 d)
  · refine thnF (T.item B rfl rfl rfl hc j pins s1 σ H1 (fun _ _ => False) I1 (still n1) t1 gone) fun r s2 ⟨u, hr, h2⟩ => ?_
    subst hr
    refine wpAny_bind (thnF h2 fun _ s3 ⟨x, H3, I3, r3, y3, t3, n3⟩ => ?_)
    have I4 := I3.pinned (still n3) (T.obj _ _ t3)
    have run := each _ x u H3 s3 N1 I4 r3 (yld x H3 y3)
    refine wpAny_bind (wpAny_mono run (fun _ s4 h4 => wpAny_mono h4 (fun f s5 ⟨ef, τ, H5, I5, kp, d5⟩ => ?_) fun _ _ z => z.elim) fun _ _ z => z.elim)
    subst ef
    obtain ⟨m1, lt, w5⟩ := less H5 d5
    have there : ∀ b ∈ fp, ∀ o, s3.heap.get? b = some o → s5.heap.get? b = some o ∧ H5 b = none := fun b hb o e =>
      have z := I5.pin (b, o) (List.mem_append_right _ (List.mem_append_right _ (mem_pinsAt hb e)))
      ⟨z.1, z.2.1⟩
    refine ⟨rfl, m1, lt, j + 1, H5, ⟨I5.unpinned.weak kp.1 kp.2, T.keep _ _ _ t3 fun b hb o e => (there b hb o e).1⟩, fun b hb => ?_, w5⟩
    obtain ⟨o, e, _⟩ := T.obj _ _ t3 b hb
    exact (there b hb o e).2
/-- an inner clause's start -/
theorem clause_start {elt t0 i0 t1 i1 t2 i2 : Expr} {scope : Scope} {pos : Pos} {k : Nat} {it acc : Value} {env : Env} {R : Result → Shared → Prop} {s : Shared} (hk : k < 3)
    (h0 : codeAny (model B.prog B.w) B.A (.compLoop (.ListComp elt [⟨t0, i0, [], 0⟩, ⟨t1, i1, [], 0⟩, ⟨t2, i2, [], 0⟩] scope pos) k it acc env) R s)
    (h1 : wpAny (model B.prog B.w) B.A (pyIter it) (fun it2 s1 => codeAny (model B.prog B.w) B.A (.compLoop (.ListComp elt [⟨t0, i0, [], 0⟩, ⟨t1, i1, [], 0⟩, ⟨t2, i2, [], 0⟩] scope pos) k it2 acc env) R s1) (fun _ _ => False) s) :
    codeAny (model B.prog B.w) B.A (.compStart (.ListComp elt [⟨t0, i0, [], 0⟩, ⟨t1, i1, [], 0⟩, ⟨t2, i2, [], 0⟩] scope pos) k it acc env) R s := by
  refine codeAny_of_tree ?_
  show wpAny _ _ ((compStart (.ListComp elt [⟨t0, i0, [], 0⟩, ⟨t1, i1, [], 0⟩, ⟨t2, i2, [], 0⟩] scope pos) k it acc env).onRaise (fun x => do noteFrame x env; standAt theWindowsPlace)) _ _ s
  refine wpAny_notedAt ?_
  obtain rfl | rfl | rfl : k = 0 ∨ k = 1 ∨ k = 2 := by omega
  all_goals
    unfold compStart
    show wpAny _ _ (ask >>= _) _ _ s
    refine wpAny_bind (wpAny_askSetting (wpAny_ite ?_))
    split
    · first
        | exact wpAny_bind (wpAny_pure (wpAny_pure (And.intro rfl h0)))
        | exact wpAny_pure (And.intro rfl h0)
    · refine wpAny_bind (wpAny_rule ?_)
      first
        | exact wpAny_bind (wpAny_standAt (wpAny_bind (wpAny_mono h1 (fun _ _ z => wpAny_pure (And.intro rfl z)) fun _ _ z => z.elim)))
        | (show wpAny _ _ (standAt _ >>= _) _ _ s; exact wpAny_bind (wpAny_standAt (wpAny_bind (wpAny_mono h1 (fun _ _ z => wpAny_pure (And.intro rfl z)) fun _ _ z => z.elim))))
end
section
variable {B : Cx} {elt t0 i0 t1 i1 t2 i2 : Expr} {scope : Scope} {pos : Pos} {acc : Value}
/-- what a clause does that isn't the last one -/
def inner3 (elt t0 i0 t1 i1 t2 i2 : Expr) (scope : Scope) (pos : Pos) (k : Nat) (iter : Expr) (it acc : Value) (env : Env) : Sem Fin := do
  let x ← eval iter env
  standAt iter.pos
  let x ← foldedSetIterable iter env x
  let _ ← runOwn (.compStart (.ListComp elt [⟨t0, i0, [], 0⟩, ⟨t1, i1, [], 0⟩, ⟨t2, i2, [], 0⟩] scope pos) (k + 1) (← holding [x] (pyIter x)) acc env) env
  again (.compLoop (.ListComp elt [⟨t0, i0, [], 0⟩, ⟨t1, i1, [], 0⟩, ⟨t2, i2, [], 0⟩] scope pos) k it acc env)
def last3 (elt : Expr) (acc : Value) (env : Env) : Sem Unit := do let _ ← call (.builtin "list.append") [acc, ← eval elt env]
theorem turn3_0 {it : Value} {env : Env} : compTurn (.ListComp elt [⟨t0, i0, [], 0⟩, ⟨t1, i1, [], 0⟩, ⟨t2, i2, [], 0⟩] scope pos) 0 it acc env = (do
      standAt i0.pos
      match ← pyNext it with
      | none => pure (.done .next)
      | some v => letOwnedTupleGo t0 it v; assign t0 env v; inner3 elt t0 i0 t1 i1 t2 i2 scope pos 0 i1 it acc env) := by rfl
theorem turn3_1 {it : Value} {env : Env} : compTurn (.ListComp elt [⟨t0, i0, [], 0⟩, ⟨t1, i1, [], 0⟩, ⟨t2, i2, [], 0⟩] scope pos) 1 it acc env = (do
      standAt i1.pos
      match ← pyNext it with
      | none => pure (.done .next)
      | some v => letOwnedTupleGo t1 it v; assign t1 env v; inner3 elt t0 i0 t1 i1 t2 i2 scope pos 1 i2 it acc env) := by rfl
theorem turn3_2 {it : Value} {env : Env} : compTurn (.ListComp elt [⟨t0, i0, [], 0⟩, ⟨t1, i1, [], 0⟩, ⟨t2, i2, [], 0⟩] scope pos) 2 it acc env = (do
      standAt i2.pos
      match ← pyNext it with
      | none => pure (.done .next)
      | some v => letOwnedTupleGo t2 it v; assign t2 env v; last3 elt acc env; again (.compLoop (.ListComp elt [⟨t0, i0, [], 0⟩, ⟨t1, i1, [], 0⟩, ⟨t2, i2, [], 0⟩] scope pos) 2 it acc env)) := by rfl
/-- an inner clause from its source to its end -/
theorem inner_run {k : Nat} (hk : k + 1 < 3) {tg iter : Expr} {ito : Value} {wi : TI} {BD : V → Hp → (Hp → Prop) → Prop} {σ τ : L2.St} {H : Hp} {s : Shared} {pins : List (Addr × Obj)} {N : Hp → Prop} {rest : Addr → Sem Fin} (hx : B.xe = fun _ _ => False) (hc : B.calm = true) (hs : ∀ env x, foldedSetIterable iter env x = pure x)
    (pi : PI B tg iter wi) (kp : Kp τ σ)
    (turn : ∀ it, compTurn (.ListComp elt [⟨t0, i0, [], 0⟩, ⟨t1, i1, [], 0⟩, ⟨t2, i2, [], 0⟩] scope pos) (k + 1) (.ref it) acc B.env = (do
      standAt iter.pos
      match ← pyNext (.ref it) with
      | none => pure (.done .next)
      | some v => letOwnedTupleGo tg (.ref it) v; assign tg B.env v; rest it))
    (each : ∀ (it : Addr) (pn : List (Addr × Obj)) (x : V) (u : Value) (H : Hp) (s : Shared) (N1 : Hp → Prop), Inv B (pins ++ pn) τ H s → RelV x u → BD x H N1 →
      wpAny (model B.prog B.w) B.A (assign tg B.env u) (fun _ s1 => wpAny (model B.prog B.w) B.A (rest it) (fun f s2 => f = .again (.compLoop (.ListComp elt [⟨t0, i0, [], 0⟩, ⟨t1, i1, [], 0⟩, ⟨t2, i2, [], 0⟩] scope pos) (k + 1) (.ref it) acc B.env) ∧ ∃ τ2 H1, Inv B (pins ++ pn) τ2 H1 s2 ∧ Kp τ τ2 ∧ N1 H1) (fun _ _ => False) s1) (fun _ _ => False) s)
    (I : Inv B pins σ H s) (h : wi σ H fun J H1 => tGo J BD H1 N) :
    wpAny (model B.prog B.w) B.A (inner3 elt t0 i0 t1 i1 t2 i2 scope pos k iter ito acc B.env) (fun f s2 => f = .again (.compLoop (.ListComp elt [⟨t0, i0, [], 0⟩, ⟨t1, i1, [], 0⟩, ⟨t2, i2, [], 0⟩] scope pos) k ito acc B.env) ∧ ∃ H1, Inv B pins τ H1 s2 ∧ N H1) (fun _ _ => False) s := by
  unfold inner3
  have run := pi.run pins s σ H _ I h
  rw [hx] at run
  refine wpAny_bind (thn run fun v s1 h1 => ?_)
  refine wpAny_bind (wpAny_standAt (wpAny_bind (wpAny_of_eq (hs _ v) (wpAny_bind (wpAny_holding (thn h1 fun itv s2 h2 => ?_))))))
  obtain ⟨it, fp, tn, J, H1, rfl, I1, T, t1', f1, go⟩ := h2
  have loop := clause_loop (R := fun r s' => match r with
    | .ok _ => ∃ H1, Inv B pins τ H1 s' ∧ N H1
    | .error _ => False) hc (turn it) T (each it) (I1.weak kp.1 kp.2) t1' f1 go fun s1 H1 J1 n1 => ⟨H1, J1, n1⟩
  refine wpAny_bind (wpAny_runOwn ?_)
  rw [Around.mark_none]
  refine codeAny_mono (clause_start hk loop (T.self B.A 0 _ _ _ t1' loop)) fun r s' hr => ?_
  cases r with
  | ok f => exact wpAny_pure ⟨rfl, hr⟩
  | error e => exact hr.elim
end
section
variable {X : Cx}
/-- the frame of a list comprehension: what its own block does is left open -/
theorem comp_frame {pins : List (Addr × Obj)} {σ : L2.St} {H : Hp} {s : Shared} {elt tg iter : Expr} {ifs : List Expr} {more : List Comprehension} {scope : Scope} {own : List (Str × Nat)} {pos : Pos} {wi : TI} {G : It → Addr → Hp → Prop} {Q : VK}
    (hN : X.N.Nodup) (I : Inv X pins σ H s) (hi : PI X tg iter wi) (ok : BlkOk X.N X.env.scope scope own) (hs : ∀ x, foldedSetIterable iter X.env x = pure x) (h : wi σ H fun J H1 => ∀ D, H1 D = none → G J D (upd H1 D (.lst [])))
    (inside : ∀ (J : It) (D : Addr) (s3 : Shared) (H3 : Hp) (C : Addr) (cl : List (Str × Addr)) (fp : List Addr) (it : Addr) (tn : Nat → Heap → Prop) (s4 : Shared) (R : Result → Shared → Prop),
      Inv (X.blk s3 H3 scope (compEnvC scope cl C X.env) fp) [] (wipe σ (own.map (·.2))) H3 s4 → Turn X.prog X.w X.K tg J fp it tn → tn 0 s4.heap → (∀ b ∈ fp, FpOk (X.blk s3 H3 scope (compEnvC scope cl C X.env) fp) [] H3 b) → G J D H3 →
      (∀ s5 H5, Inv (X.blk s3 H3 scope (compEnvC scope cl C X.env) fp) [] (wipe σ (own.map (·.2))) H5 s5 → Q (.ref D) H5 → R (.ok .next) s5) →
      codeAny (model X.prog X.w) X.A (.compLoop (.ListComp elt (⟨tg, iter, ifs, 0⟩ :: more) scope pos) 0 (.ref it) (.ref D) (compEnvC scope cl C X.env)) R s4) :
    wpAny (model X.prog X.w) X.A (eval (.ListComp elt (⟨tg, iter, ifs, 0⟩ :: more) scope pos) X.env) (EP X pins σ Q) X.xe s := by
  rw [eval_ListComp]
  have cl0 : ∀ y ∈ scope.names, y.2 = .free → ∃ c, X.env.cells.lookup y.1 = some c := fun y hy e => (ok.free y hy e).elim (fun k => I.ok.has _ (.inl k)) fun k => I.ok.has _ (.inr k)
  refine wpAny_comprehension_free rfl hs (closure_ok cl0) ok.kind (fun y hy e => by rw [ok.uniq y hy, e]) (thn (hi.run pins s σ H _ I h) fun v s1 h1 => thn h1 fun itv s2 h2 => ?_)
  obtain ⟨it, fp, tn, J, H2, rfl, I2, T, st, hf, q⟩ := h2
  refine wpAny_newObj_type (newEnv_comp ?_) (by show 0 ≤ sizeLine; decide)
  have nD : H2 s2.heap.objs.size = none := I2.hok.fresh (Nat.le_refl _)
  have g := q _ nD
  have at3 := Heap.get?_push_size s2.heap (o := { cls := .type "list", data := .seq ([] : List Value).toArray }) rfl
  have keep3 : ∀ b o, s2.heap.get? b = some o → (s2.heap.push { cls := .type "list", data := .seq ([] : List Value).toArray }).get? b = some o := fun b o e => Heap.get?_push_of_some _ e
  have size3 : (s2.heap.push { cls := .type "list", data := .seq ([] : List Value).toArray }).objs.size = s2.heap.objs.size + 1 := Heap.size_push ..
  generalize s2.heap.push { cls := .type "list", data := .seq ([] : List Value).toArray } = h3 at at3 keep3 size3 ⊢
  have I3 : Inv X pins (σ) (upd H2 s2.heap.objs.size (.lst [])) { s2 with heap := h3 } := I2.laid (t' := s2.toks) keep3 (Nat.le_refl _) ⟨Nat.zero_le _, [], 0, .nil, at3⟩
  have below : ∀ b ∈ fp, b < s2.heap.objs.size := fun b hb => have ⟨_, e, _⟩ := T.obj _ _ st b hb; Heap.lt_size e
  have f3 : ∀ b ∈ fp, FpOk X pins (upd H2 s2.heap.objs.size (.lst [])) b ∧ b < h3.objs.size := fun b hb =>
    ⟨⟨(upd_ne (Nat.ne_of_lt (below b hb))).trans (hf b hb).1, (hf b hb).2⟩, by rw [size3]; exact Nat.lt_succ_of_lt (below b hb)⟩
  have I4 := block_start I3 ok hN f3
  have st4 := T.keep _ _ ((pushCells (h3.push { cls := .type "dict", data := .dict #[] }) scope.names)) st fun b _ o e => pushCells_keeps _ _ _ _ (Heap.get?_push_of_some _ (keep3 b o e))
  show codeAny _ _ (.compStart _ 0 (.ref it) (.ref s2.heap.objs.size) (compEnvC scope (cellsFrom (h3.objs.size + 1) scope.names (cloFrom X.env.cells scope.names [])) h3.objs.size X.env)) (compPost (model X.prog X.w) X.A X.xe none (EP X pins σ Q) (.ref s2.heap.objs.size) h3.objs.size) { s2 with heap := pushCells (h3.push { cls := .type "dict", data := .dict #[] }) scope.names }
  have I4 : Inv (X.blk { s2 with heap := h3 } (upd H2 s2.heap.objs.size (.lst [])) scope (compEnvC scope (cellsFrom (h3.objs.size + 1) scope.names (cloFrom X.env.cells scope.names [])) h3.objs.size X.env) fp) [] (wipe σ (own.map (·.2))) (upd H2 s2.heap.objs.size (.lst [])) { s2 with heap := pushCells (h3.push { cls := .type "dict", data := .dict #[] }) scope.names } := I4
  have run := inside J s2.heap.objs.size { s2 with heap := h3 } (upd H2 s2.heap.objs.size (.lst [])) h3.objs.size (cellsFrom (h3.objs.size + 1) scope.names (cloFrom X.env.cells scope.names [])) fp it tn _ (compPost (model X.prog X.w) X.A X.xe none (EP X pins σ Q) (.ref s2.heap.objs.size) h3.objs.size) I4 T st4
    (fun b hb => ⟨(f3 b hb).1.1, (I4.ok.exf b hb).1, I4.ok.exfs b hb, .inl hb, fun x c e => (I4.ok.exf b hb).2 x c e, fun p hp => absurd (show p ∈ ([] : List (Addr × Obj)) ++ [] from hp) (by simp)⟩) g fun s5 H5 I5 q5 => ?_
  · exact codeAny_compStart_list run (T.self X.A 0 _ _ _ st4 run)
  · have back : Inv X pins σ H5 s5 := I3.call' (ch := fp) I5.os I5.base I5.hok I5.bare fun b hb => ⟨(f3 b hb).1.2.2.2.1, (f3 b hb).1.2.1, (f3 b hb).1.2.2.2.2.1, (f3 b hb).1.2.2.2.2.2⟩
    have free : H5 h3.objs.size = none := I5.free
    obtain ⟨m, there, _⟩ := I5.loc
    obtain ⟨f0, f1, f2, f3', f4, f5⟩ := I3.fpOk (Nat.le_refl _) free
    exact ⟨m, there, fun h'' sb => ⟨.ref s2.heap.objs.size, H5, back.turned (t' := s5.toks) (fun b o hb e => (sb.2 b hb).trans e) f0 f1 f3' f4 f5, rfl, q5⟩⟩
end
section
variable {X : Cx}
/-- [elt for t0 in i0 for t1 in i1 for t2 in i2] -/
theorem pe_lc3D {elt t0 i0 t1 i1 t2 i2 : Expr} {scope : Scope} {own : List (Str × Nat)} {v1 v2 : List Nat} {pos : Pos} {w0 : TI} {w1 w2 : Dep TI} {g0 g1 g2 : Dep TG} {te : Dep TE} (hc : X.calm = true) (hN : X.N.Nodup) (p0 : PI X t0 i0 w0) (ok : BlkOk X.N X.env.scope scope own) (sub1 : ∀ i ∈ v1, i ∈ own.map (·.2)) (sub2 : ∀ i ∈ v2, i ∈ v1)
    (h0 : ∀ (s : Shared) (H : Hp) (C : Addr) (cl : List (Str × Addr)) (fp : List Addr), PG (X.blk s H scope (compEnvC scope cl C X.env) fp) t0 (g0 s H C cl fp))
    (p1 : ∀ (s : Shared) (H : Hp) (C : Addr) (cl : List (Str × Addr)) (fp : List Addr), PI (X.blk s H scope (compEnvC scope cl C X.env) fp) t1 i1 (w1 s H C cl fp))
    (h1 : ∀ (s : Shared) (H : Hp) (C : Addr) (cl : List (Str × Addr)) (fp : List Addr), PG (X.blk s H scope (compEnvC scope cl C X.env) fp) t1 (g1 s H C cl fp))
    (p2 : ∀ (s : Shared) (H : Hp) (C : Addr) (cl : List (Str × Addr)) (fp : List Addr), PI (X.blk s H scope (compEnvC scope cl C X.env) fp) t2 i2 (w2 s H C cl fp))
    (h2 : ∀ (s : Shared) (H : Hp) (C : Addr) (cl : List (Str × Addr)) (fp : List Addr), PG (X.blk s H scope (compEnvC scope cl C X.env) fp) t2 (g2 s H C cl fp))
    (he : ∀ (s : Shared) (H : Hp) (C : Addr) (cl : List (Str × Addr)) (fp : List Addr), PE (X.blk s H scope (compEnvC scope cl C X.env) fp) elt (te s H C cl fp))
    (s0 : ∀ x, foldedSetIterable i0 X.env x = pure x := by intro _; rfl) (s1 : ∀ env x, foldedSetIterable i1 env x = pure x := by intro _ _; rfl) (s2 : ∀ env x, foldedSetIterable i2 env x = pure x := by intro _ _; rfl)
    (e0 : ∀ s H C cl fp, g0 s H C cl fp = g0.at X := by intros; rfl) (e1 : ∀ s H C cl fp, w1 s H C cl fp = w1.at X := by intros; rfl) (e2 : ∀ s H C cl fp, g1 s H C cl fp = g1.at X := by intros; rfl)
    (e3 : ∀ s H C cl fp, w2 s H C cl fp = w2.at X := by intros; rfl) (e4 : ∀ s H C cl fp, g2 s H C cl fp = g2.at X := by intros; rfl) (e5 : ∀ s H C cl fp, te s H C cl fp = te.at X := by intros; rfl) :
    PE X (.ListComp elt [⟨t0, i0, [], 0⟩, ⟨t1, i1, [], 0⟩, ⟨t2, i2, [], 0⟩] scope pos) (tLc3 w0 (g0.at X) (w1.at X) (g1.at X) (w2.at X) (g2.at X) (te.at X) (own.map (·.2)) v1 v2) := by
  refine ⟨fun pins s σ H Q I h => ?_⟩
  refine comp_frame (own := own) (G := fun J D H1 => tGo J (tCl (g0.at X) (own.map fun p : Str × Nat => p.2) (tIn (w1.at X) (g1.at X) v1 (tIn (w2.at X) (g2.at X) v2 (tEl (te.at X) D))) σ) H1 (Q (.ref D))) hN I p0 ok s0 h fun J D s3 H3 C cl fp it tn s4 R I4 T st hf go fin => ?_
  have q0 := h0 s3 H3 C cl fp
  have r1 := p1 s3 H3 C cl fp
  have q1 := h1 s3 H3 C cl fp
  have r2 := p2 s3 H3 C cl fp
  have q2 := h2 s3 H3 C cl fp
  have qe := he s3 H3 C cl fp
  rw [e0] at q0
  rw [e1] at r1
  rw [e2] at q1
  rw [e3] at r2
  rw [e4] at q2
  rw [e5] at qe
  generalize hB : X.blk s3 H3 scope (compEnvC scope cl C X.env) fp = B at I4 hf fin q0 r1 q1 r2 q2 qe
  have bx : B.xe = fun _ _ => False := by subst hB; rfl
  have bc : B.calm = true := by subst hB; exact hc
  have bp : B.prog = X.prog := by subst hB; rfl
  have bw : B.w = X.w := by subst hB; rfl
  have bA : B.A = X.A := by subst hB; rfl
  have bK : B.K = X.K := by subst hB; rfl
  have bE : B.env = compEnvC scope cl C X.env := by subst hB; rfl
  rw [← bp, ← bw, ← bK] at T
  rw [← bp, ← bw, ← bA, ← bE]
  have stF : ∀ {pn : List (Addr × Obj)} {tg : Expr} {g : TG} {σ : L2.St} {x : V} {u : Value} {H : Hp} {s : Shared} {P : L2.St → Hp → Prop}, PG B tg g → Inv B pn σ H s → RelV x u → g x σ H P →
      wpAny (model B.prog B.w) B.A (assign tg B.env u) (fun _ s1 => ∃ τ H1, Inv B pn τ H1 s1 ∧ P τ H1) (fun _ _ => False) s := fun {pn tg g σ x u H s P} pg I r h => by
    have z := pg.run pn s σ H x u P I r h
    rw [bx] at z
    exact z
  refine clause_loop bc turn3_0 T (fun pn x u H s N1 I r bd => ?_) I4 st hf go fin
  refine thn (stF q0 I r bd) fun _ s5 ⟨τ, H5, I5, k5, in1⟩ => ?_
  refine thn (inner_run (N := N1) (τ := wipe τ v1) (by decide) bx bc s1 r1 ⟨wipe_length _ _, fun j v e => (wipe_some e).1⟩ (fun it => turn3_1) (fun it pn2 x u H s N2 I r bd => ?_) I5 in1) fun f s6 ⟨ef, H6, I6, n6⟩ => ⟨ef, _, H6, I6, (Kp.wiped k5).trans' sub1, n6⟩
  refine thn (stF q1 I r bd) fun _ s7 ⟨τ2, H7, I7, k7, in2⟩ => ?_
  refine thn (inner_run (N := N2) (τ := wipe τ2 v2) (by decide) bx bc s2 r2 ⟨wipe_length _ _, fun j v e => (wipe_some e).1⟩ (fun it => turn3_2) (fun it pn3 x u H s N3 I r bd => ?_) I7 in2) fun f s8 ⟨ef, H8, I8, n8⟩ => ⟨ef, _, H8, I8, (Kp.wiped k7).trans' sub2, n8⟩
  refine thn (stF q2 I r bd) fun _ s9 ⟨τ3, H9, I9, k9, ein⟩ => ?_
  have el := qe.run _ s9 τ3 H9 _ I9 ein
  rw [bx] at el
  unfold last3
  refine wpAny_bind (wpAny_bind (thn el fun z s10 ⟨y, H10, I10, r10, acc, hD, hz, n10⟩ => ?_))
  refine wpAny_bind (app_ok I10 hD hz r10 fun s11 I11 => wpAny_pure ?_)
  exact wpAny_pure ⟨rfl, _, _, I11, Kp.wiped k9, n10⟩
end


end My
namespace My
open PySem PySem.Spec PyProof.Rows L2 TL
theorem nx_go {D : Ends} {σ : L2.St} {H : Hp} (h : D.nx σ H) : tNext D σ H := h
theorem asg_go2 {i : Nat} {x : V} {σ : L2.St} {H : Hp} {N : L2.St → Hp → Prop} (h : N (σ.set i (some x)) H) : gName i x σ H N := h
theorem cut_if {tt : TT} {a b : TS} {D : Ends} {σ : L2.St} {H : Hp} (PV : Bool → Hp → Prop) (h : ∀ Q : Bool → Hp → Prop, (∀ c H', PV c H' → Q c H') → tt σ H Q)
    (k : ∀ c H', PV c H' → (if c = true then a D σ H' else b D σ H')) : tIfS tt a b D σ H := h _ k
theorem cut_st {a u : TS} {D : Ends} {σ : L2.St} {H : Hp} (PV : L2.St → Hp → Prop) (h : ∀ N : L2.St → Hp → Prop, (∀ σ' H', PV σ' H' → N σ' H') → a { D with nx := N } σ H)
    (k : ∀ σ' H', PV σ' H' → u D σ' H') : tSeq a u D σ H := h _ k
theorem cut_arg {te : TE} {σ : L2.St} {H : Hp} {Q : List V → Hp → Prop} (PV : V → Hp → Prop) (h : ∀ Q : VK, (∀ v H', PV v H' → Q v H') → te σ H Q) (k : ∀ v H', PV v H' → Q [v] H') : tCons te tNil σ H Q := h _ k


end My
namespace My
open PySem PySem.Spec PyProof.Rows L2 TL
def topS (i : Nat) : Stmt := PySem.Challenge.pw_fromparts_k30_rooms_judged.main.body.getD i (.Pass ⟨0, 0, 0, 0⟩)
abbrev s__wall : Stmt := topS 0
theorem sc__wall : FnScope ["k"] ["k"] (defScope s__wall) := ⟨rfl, rfl, rfl, by decide +kernel, rfl, by decide +kernel, by decide +kernel⟩
abbrev s_is_integer : Stmt := topS 3
theorem sc_is_integer : FnScope ["value"] ["value"] (defScope s_is_integer) := ⟨rfl, rfl, rfl, by decide +kernel, rfl, by decide +kernel, by decide +kernel⟩
abbrev s_is_word : Stmt := topS 4
theorem sc_is_word : FnScope ["value", "letter"] ["value"] (defScope s_is_word) := ⟨rfl, rfl, rfl, by decide +kernel, rfl, by decide +kernel, by decide +kernel⟩
abbrev s__kept : Stmt := topS 6
theorem sc__kept : FnScope ["value", "one", "name"] ["value"] (defScope s__kept) := ⟨rfl, rfl, rfl, by decide +kernel, rfl, by decide +kernel, by decide +kernel⟩
abbrev s_InvalidNumber___init__ : Stmt := inClass (topS 9) 0
theorem sc_InvalidNumber___init__ : FnScope ["self", "number"] ["self", "number"] (defScope s_InvalidNumber___init__) := ⟨rfl, rfl, rfl, by decide +kernel, rfl, by decide +kernel, by decide +kernel⟩
abbrev s_is_ascending : Stmt := topS 11
theorem sc_is_ascending : FnScope ["row", "one", "other"] ["row"] (defScope s_is_ascending) := ⟨rfl, rfl, rfl, by decide +kernel, rfl, by decide +kernel, by decide +kernel⟩
abbrev s_bits_of : Stmt := topS 13
theorem sc_bits_of : FnScope ["row", "one"] ["row"] (defScope s_bits_of) := ⟨rfl, rfl, rfl, by decide +kernel, rfl, by decide +kernel, by decide +kernel⟩
abbrev s_has_bit : Stmt := topS 14
theorem sc_has_bit : FnScope ["bits", "at"] ["bits", "at"] (defScope s_has_bit) := ⟨rfl, rfl, rfl, by decide +kernel, rfl, by decide +kernel, by decide +kernel⟩
abbrev s_is_order : Stmt := topS 16
theorem sc_is_order : FnScope ["reach", "limit", "above", "row", "world"] ["reach", "limit"] (defScope s_is_order) := ⟨rfl, rfl, rfl, by decide +kernel, rfl, by decide +kernel, by decide +kernel⟩
abbrev s__is_row : Stmt := topS 17
theorem sc__is_row : FnScope ["row", "many", "world"] ["row", "many"] (defScope s__is_row) := ⟨rfl, rfl, rfl, by decide +kernel, rfl, by decide +kernel, by decide +kernel⟩
abbrev s__is_placed : Stmt := topS 18
theorem sc__is_placed : FnScope ["world", "row", "above", "other"] ["world", "row", "above"] (defScope s__is_placed) := ⟨rfl, rfl, rfl, by decide +kernel, rfl, by decide +kernel, by decide +kernel⟩
abbrev s_are_truths : Stmt := topS 19
theorem sc_are_truths : FnScope ["reach", "truths", "true", "row", "word", "world", "other"] ["reach", "truths"] (defScope s_are_truths) := ⟨rfl, rfl, rfl, by decide +kernel, rfl, by decide +kernel, by decide +kernel⟩
abbrev s__is_row_of_atoms : Stmt := topS 20
theorem sc__is_row_of_atoms : FnScope ["row", "word"] ["row"] (defScope s__is_row_of_atoms) := ⟨rfl, rfl, rfl, by decide +kernel, rfl, by decide +kernel, by decide +kernel⟩
abbrev s_Room___init__ : Stmt := inClass (topS 23) 0
theorem sc_Room___init__ : FnScope ["self", "reach", "truths", "row"] ["self", "reach", "truths"] (defScope s_Room___init__) := ⟨rfl, rfl, rfl, by decide +kernel, rfl, by decide +kernel, by decide +kernel⟩
abbrev s_Room_reach : Stmt := inClass (topS 23) 1
theorem sc_Room_reach : FnScope ["self"] ["self"] (defScope s_Room_reach) := ⟨rfl, rfl, rfl, by decide +kernel, rfl, by decide +kernel, by decide +kernel⟩
abbrev s_Room_truths : Stmt := inClass (topS 23) 2
theorem sc_Room_truths : FnScope ["self"] ["self"] (defScope s_Room_truths) := ⟨rfl, rfl, rfl, by decide +kernel, rfl, by decide +kernel, by decide +kernel⟩
abbrev s_Room_atoms : Stmt := inClass (topS 23) 3
theorem sc_Room_atoms : FnScope ["self", "row", "word"] ["self"] (defScope s_Room_atoms) := ⟨rfl, rfl, rfl, by decide +kernel, rfl, by decide +kernel, by decide +kernel⟩
abbrev s_Room_bears : Stmt := inClass (topS 23) 4
theorem sc_Room_bears : FnScope ["self", "world", "wanted"] ["self", "world", "wanted"] (defScope s_Room_bears) := ⟨rfl, rfl, rfl, by decide +kernel, rfl, by decide +kernel, by decide +kernel⟩
abbrev s_Room_bears_all : Stmt := inClass (topS 23) 5
theorem sc_Room_bears_all : FnScope ["self", "world", "types"] ["self", "world", "types"] (defScope s_Room_bears_all) := ⟨rfl, rfl, rfl, by decide +kernel, rfl, by decide +kernel, by decide +kernel⟩
abbrev s_Room_bearing : Stmt := inClass (topS 23) 6
theorem sc_Room_bearing : FnScope ["self", "types"] ["self", "types"] (defScope s_Room_bearing) := ⟨rfl, rfl, rfl, by decide +kernel, rfl, by decide +kernel, by decide +kernel⟩
abbrev s_Room_refusing : Stmt := inClass (topS 23) 7
theorem sc_Room_refusing : FnScope ["self", "library", "goal"] ["self", "library", "goal"] (defScope s_Room_refusing) := ⟨rfl, rfl, rfl, by decide +kernel, rfl, by decide +kernel, by decide +kernel⟩
abbrev s_Room_upper : Stmt := inClass (topS 23) 8
theorem sc_Room_upper : FnScope ["self", "world"] ["self", "world"] (defScope s_Room_upper) := ⟨rfl, rfl, rfl, by decide +kernel, rfl, by decide +kernel, by decide +kernel⟩
abbrev s_Room_beside : Stmt := inClass (topS 23) 9
theorem sc_Room_beside : FnScope ["self", "other"] ["self", "other"] (defScope s_Room_beside) := ⟨rfl, rfl, rfl, by decide +kernel, rfl, by decide +kernel, by decide +kernel⟩
abbrev s_Room_classes : Stmt := inClass (topS 23) 10
theorem sc_Room_classes : FnScope ["self"] ["self"] (defScope s_Room_classes) := ⟨rfl, rfl, rfl, by decide +kernel, rfl, by decide +kernel, by decide +kernel⟩
abbrev s_Room_merged : Stmt := inClass (topS 23) 11
theorem sc_Room_merged : FnScope ["self"] ["self"] (defScope s_Room_merged) := ⟨rfl, rfl, rfl, by decide +kernel, rfl, by decide +kernel, by decide +kernel⟩
abbrev s_Room_renamed : Stmt := inClass (topS 23) 12
theorem sc_Room_renamed : FnScope ["self", "names"] ["self", "names"] (defScope s_Room_renamed) := ⟨rfl, rfl, rfl, by decide +kernel, rfl, by decide +kernel, by decide +kernel⟩
abbrev s_Room_with_atom : Stmt := inClass (topS 23) 13
theorem sc_Room_with_atom : FnScope ["self", "world", "word"] ["self", "world", "word"] (defScope s_Room_with_atom) := ⟨rfl, rfl, rfl, by decide +kernel, rfl, by decide +kernel, by decide +kernel⟩
abbrev s_Room__check_world : Stmt := inClass (topS 23) 14
theorem sc_Room__check_world : FnScope ["self", "world"] ["self", "world"] (defScope s_Room__check_world) := ⟨rfl, rfl, rfl, by decide +kernel, rfl, by decide +kernel, by decide +kernel⟩
abbrev s_Room___len__ : Stmt := inClass (topS 23) 15
theorem sc_Room___len__ : FnScope ["self"] ["self"] (defScope s_Room___len__) := ⟨rfl, rfl, rfl, by decide +kernel, rfl, by decide +kernel, by decide +kernel⟩
abbrev s_Room___getitem__ : Stmt := inClass (topS 23) 16
theorem sc_Room___getitem__ : FnScope ["self", "at"] ["self", "at"] (defScope s_Room___getitem__) := ⟨rfl, rfl, rfl, by decide +kernel, rfl, by decide +kernel, by decide +kernel⟩
abbrev s_Room___iter__ : Stmt := inClass (topS 23) 17
theorem sc_Room___iter__ : FnScope ["self"] ["self"] (defScope s_Room___iter__) := ⟨rfl, rfl, rfl, by decide +kernel, rfl, by decide +kernel, by decide +kernel⟩
abbrev s_Room___eq__ : Stmt := inClass (topS 23) 18
theorem sc_Room___eq__ : FnScope ["self", "other"] ["self", "other"] (defScope s_Room___eq__) := ⟨rfl, rfl, rfl, by decide +kernel, rfl, by decide +kernel, by decide +kernel⟩
abbrev s_Room___str__ : Stmt := inClass (topS 23) 19
theorem sc_Room___str__ : FnScope ["self"] ["self"] (defScope s_Room___str__) := ⟨rfl, rfl, rfl, by decide +kernel, rfl, by decide +kernel, by decide +kernel⟩
abbrev s__law_dice : Stmt := topS 25
theorem sc__law_dice : FnScope ["_law_script", "_law_spot", "_law_cell", "_law_great", "_law_blend"] ["_law_script", "_law_spot"] (defScope s__law_dice) := ⟨rfl, rfl, rfl, by decide +kernel, rfl, by decide +kernel, by decide +kernel⟩
abbrev s__law_roll : Stmt := topS 26
theorem sc__law_roll : FnScope ["_law_dice_here", "_law_total", "_law_found", "_law_one", "_law_two"] ["_law_dice_here", "_law_total"] (defScope s__law_roll) := ⟨rfl, rfl, rfl, by decide +kernel, rfl, by decide +kernel, by decide +kernel⟩
abbrev s__law_pick : Stmt := topS 27
theorem sc__law_pick : FnScope ["_law_dice_here", "_law_items"] ["_law_dice_here", "_law_items"] (defScope s__law_pick) := ⟨rfl, rfl, rfl, by decide +kernel, rfl, by decide +kernel, by decide +kernel⟩
abbrev s__law_some : Stmt := topS 28
theorem sc__law_some : FnScope ["_law_dice_here", "_law_items", "_law_size", "_law_left", "_law_turn"] ["_law_dice_here", "_law_items", "_law_size"] (defScope s__law_some) := ⟨rfl, rfl, rfl, by decide +kernel, rfl, by decide +kernel, by decide +kernel⟩
abbrev s__law_room : Stmt := topS 29
theorem sc__law_room : FnScope ["_law_dice_here", "_law_atoms", "_law_size", "_law_reach", "_law_truths", "_law_world", "_law_found", "_law_other", "_law_above", "_law_let", "_law_one", "_law_atom"] ["_law_dice_here", "_law_atoms"] (defScope s__law_room) := ⟨rfl, rfl, rfl, by decide +kernel, rfl, by decide +kernel, by decide +kernel⟩
abbrev s__law_room_turned : Stmt := topS 30
theorem sc__law_room_turned : FnScope ["_law_order", "_law_reach", "_law_truths", "_law_found", "_law_world", "_law_one"] ["_law_order", "_law_reach", "_law_truths"] (defScope s__law_room_turned) := ⟨rfl, rfl, rfl, by decide +kernel, rfl, by decide +kernel, by decide +kernel⟩
abbrev s__law_made_room : Stmt := topS 31
theorem sc__law_made_room : FnScope ["_law_room_here", "_law_row"] ["_law_room_here"] (defScope s__law_made_room) := ⟨rfl, rfl, rfl, by decide +kernel, rfl, by decide +kernel, by decide +kernel⟩
abbrev s__law_is_room : Stmt := topS 32
theorem sc__law_is_room : FnScope ["_law_reach", "_law_truths", "_law_size", "_law_world", "_law_row", "_law_other", "_law_one", "_law_atom"] ["_law_reach", "_law_truths"] (defScope s__law_is_room) := ⟨rfl, rfl, rfl, by decide +kernel, rfl, by decide +kernel, by decide +kernel⟩
abbrev s__law_bent : Stmt := topS 33
theorem sc__law_bent : FnScope ["_law_dice_here", "_law_room_here", "_law_reach", "_law_truths", "_law_world", "_law_way", "_law_other", "_law_row"] ["_law_dice_here", "_law_room_here"] (defScope s__law_bent) := ⟨rfl, rfl, rfl, by decide +kernel, rfl, by decide +kernel, by decide +kernel⟩
abbrev s__law_is_made : Stmt := topS 34
theorem sc__law_is_made : FnScope ["_law_reach", "_law_truths"] ["_law_reach", "_law_truths"] (defScope s__law_is_made) := ⟨rfl, rfl, rfl, by decide +kernel, rfl, by decide +kernel, by decide +kernel⟩
abbrev s__law_told_right : Stmt := topS 35
theorem sc__law_told_right : FnScope ["_law_room_here", "_law_told", "_law_size", "_law_atoms", "_law_row", "_law_at"] ["_law_room_here"] (defScope s__law_told_right) := ⟨rfl, rfl, rfl, by decide +kernel, rfl, by decide +kernel, by decide +kernel⟩
abbrev s__law_right : Stmt := topS 36
theorem sc__law_right : FnScope ["_law_dice_here", "_law_room_here", "_law_turn", "_law_reach", "_law_truths", "_law_told", "_law_made", "_law_other", "_law_odd", "_law_bad", "_law_same", "_law_row"] ["_law_dice_here"] (defScope s__law_right) := ⟨rfl, rfl, rfl, by decide +kernel, rfl, by decide +kernel, by decide +kernel⟩
abbrev s_law : Stmt := topS 37
theorem sc_law : FnScope ["_law_script", "_law_spot"] ["_law_script"] (defScope s_law) := ⟨rfl, rfl, rfl, by decide +kernel, rfl, by decide +kernel, by decide +kernel⟩
structure XRoom (K : PySem.W.Frag) (C : Addr) : Prop where
  n_reach : PySem.W.findIn K (.ref C) "_reach" = some none
  n_truths : PySem.W.findIn K (.ref C) "_truths" = some none
  n_rows : PySem.W.findIn K (.ref C) "_rows" = some none
  n_above : PySem.W.findIn K (.ref C) "_above" = some none
  first : PySem.W.selfFirst K C = true
  nfirst : PySem.W.notFirst K C (.ref C) = true
  ni_tuple : PySem.W.kitOne K (.ref C) (.type "tuple") = some false
  odd_NoneType : PySem.W.kitOne K (.type "NoneType") (.ref C) = some false
  nf_NoneType : PySem.W.notFirst K C (.type "NoneType") = true
  odd_int : PySem.W.kitOne K (.type "int") (.ref C) = some false
  nf_int : PySem.W.notFirst K C (.type "int") = true
  odd_str : PySem.W.kitOne K (.type "str") (.ref C) = some false
  nf_str : PySem.W.notFirst K C (.type "str") = true
  odd_tuple : PySem.W.kitOne K (.type "tuple") (.ref C) = some false
  nf_tuple : PySem.W.notFirst K C (.type "tuple") = true
  odd_list : PySem.W.kitOne K (.type "list") (.ref C) = some false
  nf_list : PySem.W.notFirst K C (.type "list") = true
  odd_dict : PySem.W.kitOne K (.type "dict") (.ref C) = some false
  nf_dict : PySem.W.notFirst K C (.type "dict") = true
  fn_getitem : ∀ f, Meth K C "__getitem__" f → PySem.W.fnIn K f = true
  ne : PySem.W.findIn K (.ref C) "__ne__" = some (some (.builtin "object.__ne__"))
  under : PySem.W.subIn K (.ref C) (.type "object") = some true
  cl1 : PySem.W.findIn K (.ref C) "__class__" = some (some (.builtin "object.__class__"))
  cl2 : PySem.W.specialIn K (.builtin "object.__class__") "__get__" = some (some (.builtin "getset_descriptor.__get__"))
  cl3 : PySem.W.takesIn K (.builtin "object.__class__") = some true
  cl4 : PySem.W.mroIn K C (.type "object") = some true
structure Txt (K : PySem.W.Frag) (mg : Str → Option Value) (C_Room : Addr) : Prop where
  c_Room : mg "Room" = some (.ref C_Room)
  k_Room : Cls K C_Room
  x_Room : XRoom K C_Room
  b_RuntimeError : mg "RuntimeError" = none
  b_ValueError : mg "ValueError" = none
  b_abs : mg "abs" = none
  b_all : mg "all" = none
  b_any : mg "any" = none
  b_bool : mg "bool" = none
  b_dict : mg "dict" = none
  b_enumerate : mg "enumerate" = none
  b_int : mg "int" = none
  b_isinstance : mg "isinstance" = none
  b_iter : mg "iter" = none
  b_len : mg "len" = none
  b_list : mg "list" = none
  b_max : mg "max" = none
  b_min : mg "min" = none
  b_property : mg "property" = none
  b_range : mg "range" = none
  b_set : mg "set" = none
  b_sorted : mg "sorted" = none
  b_str : mg "str" = none
  b_sum : mg "sum" = none
  b_tuple : mg "tuple" = none
  b_zip : mg "zip" = none
  g_MAX_LETTERS : ∃ u, mg "MAX_LETTERS" = some u ∧ RelV (.int 8) u
  g_MAX_WORLDS : ∃ u, mg "MAX_WORLDS" = some u ∧ RelV (.int 60) u
set_option pp.maxSteps 3000
set_option pp.deepTerms false
def isLow (c : Nat) : Bool := decide (97 ≤ c) && decide (c ≤ 122)
def isW : V → Bool
  | .str x => (decide (1 ≤ x.length) && decide (x.length ≤ 8)) && x.cps.toList.all isLow
  | _ => false
/-- a value that the law makes -/
def ValW (K : PySem.W.Frag) (H : Hp) (v : V) : Prop := (∃ x : Str, v = .str x ∧ x.length ≤ 1000 ∧ ∀ c ∈ x.cps.toList, c < 128) ∨
  (∃ t, TyX K H v t ∧ PySem.W.kitOne K t (.type "str") = some false ∧ isW v = false)
def sp_is_word (K : PySem.W.Frag) : Sp := fun vs H Q _ => ∃ v, vs = [v] ∧ ValW K H v ∧ ∀ H', Same H H' → Q (.bl (isW v)) H'
theorem isW_str (x : Str) : isW (.str x) = ((decide (1 ≤ x.length) && decide (x.length ≤ 8)) && x.cps.toList.all isLow) := rfl
section
variable {P : Program} {w : World} {K : PySem.W.Frag} {mg : Str → Option Value} {base : Heap}
theorem ok_is_word (T : Txt K mg C_Room) {f : Addr} {fd : FuncData} (F : Fun K "is_word" "is_word" s_is_word f fd) : FnOk P w K mg base CX0 1 f fd ["value"] (sp_is_word K) := by
  have nd := sc_is_word.nd
  refine F.ok sc_is_word (fun vs H Q E h => ?_) (fun cdv A outer s H vs Q E hr h => ?_)
  · obtain ⟨v, rfl, _⟩ := h
    rfl
  · obtain ⟨v, rfl, hv, q⟩ := h
    refine ⟨_, (pss_cons (ps_if (PW.pt (pw_or (pt_not (pt_val (pe_callB call_isi (by rfl) T.b_isinstance (by decide +kernel) (pa_cons (pv 0) (pa_cons (pe_bltn (v := .ty "str") (u := .type "str") (by rfl) T.b_str (by decide +kernel) rfl) pa_nil))))) (pw_or1 (pt_not (pt_chain op_le op_le pe_int (pe_callB call_len (by rfl) T.b_len (by decide +kernel) (pa_cons (pv 0) pa_nil)) (pe_globE rfl T.g_MAX_LETTERS)))))) (pss_one (ps_ret pe_bl)) pss_nil)
      (pss_one (ps_ret (pe_callB (cr_all rfl) (by rfl) T.b_all (by decide +kernel) (pa_cons (pe_lcD (own := [("letter", 1)]) (by rfl) nd (pi_str (pv 0)) (blkOk_by (own := [("letter", 1)]) (N := ["value", "letter"]) (sc := (defScope s_is_word)) (by decide +kernel)) (fun _ _ _ _ _ => pg_name (i := 1) nd rfl (Or.inl rfl)) (fun _ _ _ _ _ => pts_nil) (fun _ _ _ _ _ => (pe_chain op_le_str op_le_str pe_str (pv 1) pe_str))) pa_nil))))), ?_⟩
    rcases hv with ⟨x, rfl, hx, ha⟩ | ⟨t, ht, hk, hw⟩
    · have hx1 : x.length ≤ sizeLine := lt_line (by omega)
      have hxl : x.cps.toList.length = x.length := (len_tl x).symm
      refine ⟨.str x, rfl, .str x, .ty "str", .type "str", .type "str", true, rfl, .ty _, .base (.str x), kit_ty (by decide +kernel), true, rfl, ?_⟩
      refine iteF ?_
      refine ⟨.str x, rfl, .str x, x.length, rfl, ⟨hx1, rfl⟩, 1, (x.length : Int), rfl, rfl, _, rfl, ?_⟩
      refine ite2 (fun h1 => ?_) (fun h1 => ?_)
      · have h1' : 1 ≤ x.length := by have := of_decide_eq_true h1; omega
        refine ⟨(x.length : Int), 8, rfl, rfl, _, rfl, ?_⟩
        refine ite2 (fun h2 => ?_) (fun h2 => ?_)
        · have h2' : ¬ x.length ≤ 8 := fun z => by
            rw [decide_eq_true (show (x.length : Int) ≤ 8 by omega)] at h2
            cases h2
          have e : isW (.str x) = false := by rw [isW_str, decide_eq_false h2', Bool.and_false, Bool.false_and]
          have z := q H (Same.refl H)
          rw [e] at z
          exact z
        · have h2' : x.length ≤ 8 := by
            by_cases z : (x.length : Int) ≤ 8
            · omega
            · rw [decide_eq_false z] at h2
              exact absurd rfl h2
          refine ⟨.str x, rfl, x, rfl, fun D hD => lc_txt (fun i H' => H' D = some (.lst (((x.cps.toList.take i).map isLow).map V.bl)) ∧ Same H H') ?_ (fun i c H1 hc hP => ?_) (fun H1 hP => ?_)⟩
          · exact ⟨upd_same, (Same.refl H).mut hD⟩
          · obtain ⟨hD1, s1⟩ := hP
            refine ⟨rfl, tyes ?_⟩
            have fin : ∀ b, b = isLow c → ∃ acc, H1 D = some (.lst acc) ∧ acc.length < sizeLine ∧ ((upd H1 D (.lst (acc ++ [.bl b]))) D = some (.lst (((x.cps.toList.take (i + 1)).map isLow).map V.bl)) ∧ Same H (upd H1 D (.lst (acc ++ [.bl b])))) := by
              intro b e
              refine ⟨_, hD1, lt_line' ?_, ?_, s1.mut hD⟩
              · have := lt_of_get hc
                rw [List.length_map, List.length_map, List.length_take]
                omega
              · rw [upd_same, e, take_next hc, List.map_append, List.map_append]
                rfl
            refine ⟨.str ⟨#[c]⟩, rfl, "a", ⟨#[c]⟩, rfl, rfl, _, rfl, ?_⟩
            have ea : (decide ((⟨#[c]⟩ : Str).cps.toList < ("a" : Str).cps.toList)) = decide (c < 97) := lex1 c 97
            have ez : (decide (("z" : Str).cps.toList < (⟨#[c]⟩ : Str).cps.toList)) = decide (122 < c) := lex1 122 c
            refine ite2 (fun h3 => ?_) (fun h3 => ?_)
            · refine ⟨⟨#[c]⟩, "z", rfl, rfl, fin _ ?_⟩
              rw [ea] at h3
              rw [ez]
              unfold isLow
              by_cases z : c < 97
              · rw [decide_eq_true z] at h3
                cases h3
              · rw [decide_eq_true (show 97 ≤ c by omega), Bool.true_and]
                by_cases z2 : 122 < c
                · rw [decide_eq_true z2, decide_eq_false (by omega)]
                  rfl
                · rw [decide_eq_false z2, decide_eq_true (by omega)]
                  rfl
            · refine fin _ ?_
              rw [ea] at h3
              unfold isLow
              by_cases z : c < 97
              · rw [decide_eq_false (show ¬ 97 ≤ c by omega), Bool.false_and]
              · rw [decide_eq_false z] at h3
                exact absurd rfl h3
          · obtain ⟨hD1, s1⟩ := hP
            rw [List.take_length] at hD1
            refine ⟨D, _, rfl, SqL.of hD1, ?_⟩
            have e : isW (.str x) = (x.cps.toList.map isLow).all id := by
              rw [isW_str, decide_eq_true h1', decide_eq_true h2', List.all_map]
              rfl
            have z := q H1 s1
            rw [e] at z
            exact z
      · have h1' : ¬ 1 ≤ x.length := fun z => h1 (decide_eq_true (by omega))
        refine ⟨false, rfl, iteT ?_⟩
        have e : isW (.str x) = false := by rw [isW_str, decide_eq_false h1', Bool.false_and, Bool.false_and]
        have z := q H (Same.refl H)
        rw [e] at z
        exact z
    · refine ⟨v, rfl, v, .ty "str", t, .type "str", false, rfl, .ty _, ht, hk, false, rfl, ?_⟩
      refine iteT ?_
      refine iteT ?_
      have z := q H (Same.refl H)
      rw [hw] at z
      exact z
end

/-! ### which are integers, which are texts of variables -/
def isI : V → Bool
  | .int i => decide ((if i < 0 then -i else i) < 10 ^ 60)
  | _ => false
def dig (c : Nat) : Bool := decide (48 ≤ c) && decide (c ≤ 57)
def isL : List Nat → Bool
  | [120, a] => dig a
  | [120, a, b] => (dig a && dig b) && !decide (a = 48)
  | _ => false
def isV : V → Bool
  | .str x => isL x.cps.toList
  | _ => false
def ValK (K : PySem.W.Frag) (H : Hp) (v : V) : Prop := (∃ i, v = .int i) ∨ (∃ b, v = .bl b) ∨ (∃ x : Str, v = .str x ∧ x.length ≤ 1000) ∨
  (∃ t, TyX K H v t ∧ PySem.W.kitOne K t (.type "int") = some false ∧ PySem.W.kitOne K t (.type "str") = some false ∧ isI v = false ∧ isV v = false)
def sp_is_integer (K : PySem.W.Frag) : Sp := fun vs H Q _ => ∃ v, vs = [v] ∧ ValK K H v ∧ ∀ H', Same H H' → Q (.bl (isI v)) H'
def sp_is_variable (K : PySem.W.Frag) : Sp := fun vs H Q _ => ∃ v, vs = [v] ∧ ValK K H v ∧ ∀ H', Same H H' → Q (.bl (isV v)) H'
section
variable {P : Program} {w : World} {K : PySem.W.Frag} {mg : Str → Option Value} {base : Heap}
theorem ok_is_integer (T : Txt K mg C_Room) {f : Addr} {fd : FuncData} (F : Fun K "is_integer" "is_integer" s_is_integer f fd) : FnOk P w K mg base CX0 1 f fd ["value"] (sp_is_integer K) := by
  have nd := sc_is_integer.nd
  refine F.ok sc_is_integer (fun vs H Q E h => ?_) (fun cdv A outer s H vs Q E hr h => ?_)
  · obtain ⟨v, rfl, _⟩ := h
    rfl
  · obtain ⟨v, rfl, hv, q⟩ := h
    refine ⟨_, (pss_one (ps_ret (pe_and (pe_callB call_isi (by rfl) T.b_isinstance (by decide +kernel) (pa_cons (pv 0) (pa_cons (pe_bltn (v := .ty "int") (u := .type "int") (by rfl) T.b_int (by decide +kernel) rfl) pa_nil))) (pe_and (pe_not (pe_callB call_isi (by rfl) T.b_isinstance (by decide +kernel) (pa_cons (pv 0) (pa_cons (pe_bltn (v := .ty "bool") (u := .type "bool") (by rfl) T.b_bool (by decide +kernel) rfl) pa_nil)))) (pe_one (pe_cmpR op_lt (pe_callB call_abs (by rfl) T.b_abs (by decide +kernel) (pa_cons (pv 0) pa_nil)) (pe_op op_powW pe_int pe_int) (nomark _))))))), ?_⟩
    have z := q H (Same.refl H)
    rcases hv with ⟨i, rfl⟩ | ⟨b, rfl⟩ | ⟨x, rfl, hx⟩ | ⟨t, ht, hk, hk2, hw, _⟩
    · refine ⟨.int i, rfl, .int i, .ty "int", .type "int", .type "int", true, rfl, .ty _, .base (.int i), kit_ty (by decide +kernel), true, rfl, iteT ?_⟩
      refine ⟨.int i, rfl, .int i, .ty "bool", .type "int", .type "bool", false, rfl, .ty _, .base (.int i), kit_ty (by decide +kernel), false, rfl, true, rfl, iteT ?_⟩
      exact ⟨.int i, rfl, i, rfl, 10, 60, rfl, rfl, ⟨by decide, by decide +kernel⟩, _, _, rfl, rfl, z⟩
    · refine ⟨.bl b, rfl, .bl b, .ty "int", .type "bool", .type "int", true, rfl, .ty _, .base (.bl b), kit_ty (by decide +kernel), true, rfl, iteT ?_⟩
      exact ⟨.bl b, rfl, .bl b, .ty "bool", .type "bool", .type "bool", true, rfl, .ty _, .base (.bl b), kit_ty (by decide +kernel), true, rfl, false, rfl, iteF z⟩
    · exact ⟨.str x, rfl, .str x, .ty "int", .type "str", .type "int", false, rfl, .ty _, .base (.str x), kit_ty (by decide +kernel), false, rfl, iteF z⟩
    · rw [hw] at z
      exact ⟨v, rfl, v, .ty "int", t, .type "int", false, rfl, .ty _, ht, hk, false, rfl, iteF z⟩
end


end My
namespace My
open PySem PySem.Spec PyProof.Rows L2 TL
set_option pp.maxSteps 3000
set_option pp.deepTerms false
/-! ### a dict comprehension whose parts speak of the place where they stand -/
section
variable {X : Cx}
theorem pe_dcD {kx vx tg iter : Expr} {ifs : List Expr} {scope : Scope} {own : List (Str × Nat)} {pos : Pos} {wi : TI} {g : Dep TG} {tt : Dep TT} {tk tv : Dep TE} (hc : X.calm = true) (hN : X.N.Nodup) (hi : PI X tg iter wi) (ok : BlkOk X.N X.env.scope scope own)
    (hg : ∀ (s : Shared) (H : Hp) (C : Addr) (cl : List (Str × Addr)) (fp : List Addr), PG (X.blk s H scope (compEnvC scope cl C X.env) fp) tg (g s H C cl fp)) (ht : ∀ (s : Shared) (H : Hp) (C : Addr) (cl : List (Str × Addr)) (fp : List Addr), PTs (X.blk s H scope (compEnvC scope cl C X.env) fp) ifs (tt s H C cl fp))
    (hk : ∀ (s : Shared) (H : Hp) (C : Addr) (cl : List (Str × Addr)) (fp : List Addr), PE (X.blk s H scope (compEnvC scope cl C X.env) fp) kx (tk s H C cl fp))
    (he : ∀ (s : Shared) (H : Hp) (C : Addr) (cl : List (Str × Addr)) (fp : List Addr), PE (X.blk s H scope (compEnvC scope cl C X.env) fp) vx (tv s H C cl fp)) (hs : ∀ x, foldedSetIterable iter X.env x = pure x := by intro _; rfl)
    (eg : ∀ s H C cl fp, g s H C cl fp = g.at X := by intros; rfl) (et : ∀ s H C cl fp, tt s H C cl fp = tt.at X := by intros; rfl) (ek : ∀ s H C cl fp, tk s H C cl fp = tk.at X := by intros; rfl) (ev : ∀ s H C cl fp, tv s H C cl fp = tv.at X := by intros; rfl) :
    PE X (.DictComp kx vx [⟨tg, iter, ifs, 0⟩] scope pos) (tDc wi (g.at X) (tt.at X) (tk.at X) (tv.at X) (own.map (·.2))) :=
  pe_dc hc hN hi ok (fun s H C cl fp => eg s H C cl fp ▸ hg s H C cl fp) (fun s H C cl fp => et s H C cl fp ▸ ht s H C cl fp) (fun s H C cl fp => ek s H C cl fp ▸ hk s H C cl fp) (fun s H C cl fp => ev s H C cl fp ▸ he s H C cl fp) hs
end

/-! ### rooms: rows and orders, as values -/
/-- a row of worlds, or something else -/
def RowV (K : PySem.W.Frag) (H : Hp) (v : V) : Option (List Nat) → Prop
  | some r => ∃ q, v = .ref q ∧ H q = some (.tup (VI r)) ∧ r.length ≤ 100 ∧ ∀ n ∈ r, n ≤ 1000
  | none => (∃ t, (∀ H', Same H H' → TyX K H' v t) ∧ PySem.W.kitOne K t (.type "tuple") = some false) ∨ (∃ q x, v = .ref q ∧ H q = some (.tup [x]) ∧ (∀ H', Same H H' → ValK K H' x) ∧ isI x = false)
theorem RowV.same {K : PySem.W.Frag} {H H' : Hp} (s : Same H H') {v : V} : ∀ {o : Option (List Nat)}, RowV K H v o → RowV K H' v o
  | some r, ⟨q, e, h, x⟩ => ⟨q, e, s _ _ h, x⟩
  | none, .inl ⟨t, h, k⟩ => .inl ⟨t, fun H2 s2 => h H2 (s.trans s2), k⟩
  | none, .inr ⟨q, x, e, h, k, f⟩ => .inr ⟨q, x, e, s _ _ h, fun H2 s2 => k H2 (s.trans s2), f⟩
def RowsV (K : PySem.W.Frag) (H : Hp) (xs : List V) (o : List (Option (List Nat))) : Prop := xs.length = o.length ∧ ∀ (i : Nat) (x : V), xs[i]? = some x → ∃ r, o[i]? = some r ∧ RowV K H x r
theorem RowsV.same {K : PySem.W.Frag} {H H' : Hp} (s : Same H H') {xs : List V} {o : List (Option (List Nat))} (h : RowsV K H xs o) : RowsV K H' xs o := ⟨h.1, fun i x e => have ⟨r, e1, e2⟩ := h.2 i x e; ⟨r, e1, e2.same s⟩⟩
def OrdV (K : PySem.W.Frag) (H : Hp) (v : V) : Option (List (Option (List Nat))) → Prop
  | some o => ∃ p xs, v = .ref p ∧ H p = some (.tup xs) ∧ RowsV K H xs o ∧ o.length ≤ 100
  | none => ∃ t, (∀ H', Same H H' → TyX K H' v t) ∧ PySem.W.kitOne K t (.type "tuple") = some false
/-- a row of numbers, or of texts -/
def FlatR (xs : List V) : Prop := (∃ r : List Nat, xs = VI r) ∨ ∃ ws : List Str, xs = ws.map V.str
def sp_is_ascending (K : PySem.W.Frag) : Sp := fun vs H Q _ => ∃ p xs, vs = [.ref p] ∧ H p = some (.tup xs) ∧ FlatR xs ∧ xs.length ≤ 1000 ∧ ∀ H', Same H H' → Q (.bl (ascB xs)) H'
def sp_bits_of (K : PySem.W.Frag) : Sp := fun vs H Q _ => ∃ p r, vs = [.ref p] ∧ H p = some (.tup (VI r)) ∧ r.length ≤ 100 ∧ (∀ n ∈ r, n < 1000) ∧ ∀ H', Same H H' → Q (.int (bitsN r : Nat)) H'
def sp_has_bit (_ : PySem.W.Frag) : Sp := fun vs H Q _ => ∃ n j : Nat, vs = [.int (n : Nat), .int (j : Nat)] ∧ ∀ H', Same H H' → Q (.bl (n.testBit j)) H'
def sp__is_row (K : PySem.W.Frag) : Sp := fun vs H Q _ => ∃ v o, ∃ m : Nat, vs = [v, .int (m : Nat)] ∧ RowV K H v o ∧ ∀ H', Same H H' → Q (.bl (rowB m o)) H'
def sp__is_placed (K : PySem.W.Frag) : Sp := fun vs H Q _ => ∃ (p l : Addr) (w : Nat) (r as : List Nat), vs = [.int (w : Nat), .ref p, .ref l] ∧ H p = some (.tup (VI r)) ∧ H l = some (.lst (VI as)) ∧ w < as.length ∧ (∀ n ∈ r, n < as.length) ∧ r.length ≤ 100 ∧
  ∀ H', Same H H' → Q (.bl (plB w r as)) H'
def sp_is_order (K : PySem.W.Frag) : Sp := fun vs H Q _ => ∃ v o, vs = [v, .int 60] ∧ OrdV K H v o ∧ ∀ b H', (b = true ↔ OrdO o) → Same H H' → Q (.bl b) H'
/-- `<` of numbers or of texts -/
def rLtIS : R2 := fun x y H Q => ((∃ i j, x = .int i ∧ y = .int j) ∨ ∃ a b, x = .str a ∧ y = .str b) ∧ Q (.bl (ltV x y)) H
theorem op_ltIS {X : Cx} : OpR X (compareOp .Lt) rLtIS := by
  intro pins s σ H x y v u Q I rx ry h
  obtain ⟨⟨i, j, rfl, rfl⟩ | ⟨a, b, rfl, rfl⟩, q⟩ := h
  · exact op_lt pins s σ H _ _ v u Q I rx ry ⟨i, j, rfl, rfl, q⟩
  · exact op_lt_str pins s σ H _ _ v u Q I rx ry ⟨a, b, rfl, rfl, q⟩
theorem FlatR.two {xs : List V} (h : FlatR xs) {i j : Nat} {x y : V} (hx : xs[i]? = some x) (hy : xs[j]? = some y) : (∃ i j, x = .int i ∧ y = .int j) ∨ ∃ a b, x = .str a ∧ y = .str b := by
  rcases h with ⟨r, rfl⟩ | ⟨ws, rfl⟩
  · obtain ⟨n, _, rfl⟩ := List.mem_map.mp (List.mem_of_getElem? hx)
    obtain ⟨m, _, rfl⟩ := List.mem_map.mp (List.mem_of_getElem? hy)
    exact .inl ⟨_, _, rfl, rfl⟩
  · obtain ⟨n, _, rfl⟩ := List.mem_map.mp (List.mem_of_getElem? hx)
    obtain ⟨m, _, rfl⟩ := List.mem_map.mp (List.mem_of_getElem? hy)
    exact .inr ⟨_, _, rfl, rfl⟩
theorem bl_snoc {bs : List Bool} {i : Nat} {b : Bool} (h : bs[i]? = some b) : (bs.take (i + 1)).map V.bl = (bs.take i).map V.bl ++ [.bl b] := by
  rw [take_next h, List.map_append]
  rfl
section
variable {P : Program} {w : World} {K : PySem.W.Frag} {mg : Str → Option Value} {base : Heap} {C_Room : Addr}
theorem ok_is_ascending (T : Txt K mg C_Room) {f : Addr} {fd : FuncData} (F : Fun K "is_ascending" "is_ascending" s_is_ascending f fd) : FnOk P w K mg base CX0 1 f fd ["row"] (sp_is_ascending K) := by
  have nd := sc_is_ascending.nd
  refine F.ok sc_is_ascending (fun vs H Q E h => ?_) (fun cdv A outer s H vs Q E hr h => ?_)
  · obtain ⟨p, xs, rfl, _⟩ := h
    rfl
  · obtain ⟨p, xs, rfl, hp, fl, few, q⟩ := h
    refine ⟨_, (pss_one (ps_ret (pe_callB (cr_all rfl) (by rfl) T.b_all (by decide +kernel) (pa_cons (pe_lcD (own := [("one", 1), ("other", 2)]) (by rfl) nd (RZ.pi_zipA (by rfl) T.b_zip (pa_cons (pv 0) (pa_cons (pe_slice sl_tupA (pv 0) (po_some pe_int) po_none) pa_nil))) (blkOk_by (own := [("one", 1), ("other", 2)]) (N := ["row", "one", "other"]) (sc := (defScope s_is_ascending)) (by decide +kernel)) (fun _ _ _ _ _ => pg_tup (by rfl) (pgs_cons (pg_name (i := 1) nd rfl (Or.inl rfl)) (pgs_cons (pg_name (i := 2) nd rfl (Or.inl rfl)) pgs_nil))) (fun _ _ _ _ _ => pts_nil) (fun _ _ _ _ _ => (pe_cmpR op_ltIS (pv 1) (pv 2) (nomark _)))) pa_nil)))), ?_⟩
    cases xs with
    | nil =>
      refine ⟨.ref p, rfl, .ref p, rfl, 1, rfl, p, [], rfl, SqT.of hp, fun hw => ?_, fun hw => absurd ⟨rfl, rfl⟩ hw⟩
      refine ⟨p, p, [], [], rfl, .inr ⟨SqT.of hp, SqT.of hp, fun D hD => lc_it (walk_zipT (n := 0) rfl) (fun i H' => H' D = some (.lst []) ∧ Same H H') ⟨upd_same, (Same.refl H).mut hD⟩ (fun i H' _ hP => ⟨SqT.of (hP.2 _ _ hp), SqT.of (hP.2 _ _ hp)⟩) (fun i x H1 H2 lt => absurd lt (Nat.not_lt_zero _)) (fun H' hP => ?_)⟩⟩
      exact ⟨D, [], rfl, SqL.of hP.1, q H' hP.2⟩
    | cons a r =>
      have e1 : cutV (a :: r) (some 1) none = r := by
        show ((a :: r).drop _).take _ = r
        rw [show HT.sIx (a :: r).length 0 (some 1) = 1 from (HT.sIx_nat _ 0 1).trans (by rw [List.length_cons]; omega)]
        rw [HT.sIx_none]
        show r.take _ = r
        rw [List.length_cons, Nat.add_sub_cancel, List.take_length]
      refine ⟨.ref p, rfl, .ref p, rfl, 1, rfl, p, a :: r, rfl, SqT.of hp, fun hw => ?_, fun hw t ht => ?_⟩
      · have z : 1 = 0 := (show HT.sIx (a :: r).length 0 (some 1) = 1 from (HT.sIx_nat _ 0 1).trans (by rw [List.length_cons]; omega)).symm.trans hw.1
        cases z
      rw [e1]
      have hp1 : upd H t (.tup r) p = some (.tup (a :: r)) := (upd_ne (ne_of_none hp ht)).trans hp
      have ht1 : upd H t (.tup r) t = some (.tup r) := upd_same
      have s1 : Same H (upd H t (.tup r)) := (Same.refl H).new ht
      generalize upd H t (.tup r) = G at hp1 ht1 s1 ⊢
      have ln := prs_len (a :: r)
      have nn : r.length = min (a :: r).length r.length := by rw [List.length_cons]; omega
      refine ⟨p, t, a :: r, r, rfl, .inr ⟨SqT.of hp1, SqT.of ht1, fun D hD => lc_it (walk_zipT (n := r.length) nn) (fun i H' => H' D = some (.lst (((prsB (a :: r)).take i).map V.bl)) ∧ Same G H') ⟨upd_same, (Same.refl G).mut hD⟩ (fun i H' _ hP => ⟨SqT.of (hP.2 _ _ hp1), SqT.of (hP.2 _ _ ht1)⟩) (fun i v H1 H2 lt hP y => ?_) (fun H' hP => ?_)⟩⟩
      · obtain ⟨T0, x, z, rfl, hT, rfl, f1, f2⟩ := y
        obtain ⟨hD1, s2⟩ := hP
        have s3 := s2.new (o := .tup [x, z]) hT
        have hD2 := (upd_ne (o := .tup [x, z]) (ne_of_none hD1 hT)).trans hD1
        have hT2 : upd H1 T0 (.tup [x, z]) T0 = some (.tup [x, z]) := upd_same
        generalize upd H1 T0 (.tup [x, z]) = G2 at s3 hD2 hT2 ⊢
        refine ⟨T0, _, rfl, .of hT2, rfl, _, _, rfl, asg_go2 ⟨_, _, rfl, asg_go2 ⟨rfl, ?_⟩⟩⟩
        refine ⟨rfl, tyes ?_⟩
        have e3 := prs_at (xs := a :: r) f1 (show (a :: r)[i + 1]? = some z from f2)
        refine ⟨x, rfl, z, rfl, fl.two f1 (show (a :: r)[i + 1]? = some z from f2), _, hD2, lt_line' ?_, ?_, s3.mut hD⟩
        · rw [List.length_map, List.length_take]
          have few : r.length + 1 ≤ 1000 := few
          omega
        · rw [upd_same, bl_snoc e3]
      · obtain ⟨hD1, s2⟩ := hP
        have hD1 : H' D = some (.lst ((prsB (a :: r)).map V.bl)) := by
          rw [List.take_of_length_le (by rw [ln, List.length_cons]; omega)] at hD1
          exact hD1
        exact ⟨D, _, rfl, SqL.of hD1, q H' (s1.trans s2)⟩
theorem ok_bits_of (T : Txt K mg C_Room) {f : Addr} {fd : FuncData} (F : Fun K "bits_of" "bits_of" s_bits_of f fd) : FnOk P w K mg base CX0 1 f fd ["row"] (sp_bits_of K) := by
  have nd := sc_bits_of.nd
  refine F.ok sc_bits_of (fun vs H Q E h => ?_) (fun cdv A outer s H vs Q E hr h => ?_)
  · obtain ⟨p, r, rfl, _⟩ := h
    rfl
  · obtain ⟨p, r, rfl, hp, few, low, q⟩ := h
    refine ⟨_, (pss_one (ps_ret (pe_callB (cr_sum rfl) (by rfl) T.b_sum (by decide +kernel) (pa_cons (pe_lcD (own := [("one", 1)]) (by rfl) nd (pi_tup (pv 0)) (blkOk_by (own := [("one", 1)]) (N := ["row", "one"]) (sc := (defScope s_bits_of)) (by decide +kernel)) (fun _ _ _ _ _ => pg_name (i := 1) nd rfl (Or.inl rfl)) (fun _ _ _ _ _ => pts_nil) (fun _ _ _ _ _ => (pe_op op_shl pe_int (pv 1)))) pa_nil)))), ?_⟩
    refine ⟨.ref p, rfl, p, rfl, ⟨_, SqT.of hp⟩, fun D hD => lc_tup (xs := VI r) (fun i H' => H' D = some (.lst (((r.take i).map fun n => ((2 ^ n : Nat) : Int)).map V.int)) ∧ Same H H') ⟨upd_same, (Same.refl H).mut hD⟩ (fun i H' _ hP => SqT.of (hP.2 _ _ hp)) (fun i x H1 hx hP => ?_) (fun H1 hP => ?_)⟩
    · obtain ⟨hD1, s1⟩ := hP
      obtain ⟨n, hn, rfl⟩ : ∃ n, r[i]? = some n ∧ x = V.int (n : Nat) := by
        unfold VI at hx
        rw [List.getElem?_map] at hx
        cases e : r[i]? with
        | none => rw [e] at hx; cases hx
        | some n => rw [e] at hx; exact ⟨n, rfl, (Option.some.inj hx).symm⟩
      have lo := low n (List.mem_of_getElem? hn)
      have li := lt_of_get hn
      refine ⟨rfl, tyes ?_⟩
      refine ⟨.int (n : Nat), rfl, 1, (n : Nat), rfl, rfl, ⟨by omega, by omega, by decide⟩, _, hD1, lt_line' ?_, ?_, s1.mut hD⟩
      · rw [List.length_map, List.length_map, List.length_take]
        omega
      · rw [upd_same, take_next hn, List.map_append, List.map_append]
        have pw : V.int ((1 : Int) * 2 ^ ((n : Nat) : Int).toNat) = V.int ((2 ^ n : Nat) : Int) := by rw [Int.one_mul, Int.toNat_natCast]; norm_cast
        exact congrArg (fun z => some (HO.lst (_ ++ [z]))) pw
    · obtain ⟨hD1, s1⟩ := hP
      rw [show (VI r).length = r.length from List.length_map _, List.take_length] at hD1
      refine ⟨D, _, rfl, SqL.of hD1, ?_⟩
      have e : (r.map fun n => ((2 ^ n : Nat) : Int)).sum = ((bitsN r : Nat) : Int) := by
        unfold bitsN
        clear hp few low hD1 q hD
        induction r with
        | nil => rfl
        | cons n r ih => rw [List.map_cons, List.sum_cons, List.map_cons, List.sum_cons, ih]; norm_cast
      rw [e]
      exact q H1 s1
theorem ok_has_bit (T : Txt K mg C_Room) {f : Addr} {fd : FuncData} (F : Fun K "has_bit" "has_bit" s_has_bit f fd) : FnOk P w K mg base CX0 1 f fd ["bits", "at"] (sp_has_bit K) := by
  have nd := sc_has_bit.nd
  refine F.ok sc_has_bit (fun vs H Q E h => ?_) (fun cdv A outer s H vs Q E hr h => ?_)
  · obtain ⟨n, j, rfl, _⟩ := h
    rfl
  · obtain ⟨n, j, rfl, q⟩ := h
    refine ⟨_, (pss_one (ps_ret (pe_cmpR op_eq (pe_op op_and (pe_op op_shr (pv 0) (pv 1)) pe_int) pe_int (nomark _)))), ?_⟩
    refine ⟨.int (n : Nat), rfl, .int (j : Nat), rfl, _, _, rfl, rfl, by omega, _, _, rfl, rfl, rfl, ?_⟩
    have e : decide (V.int (Builtin.bitAnd ((n : Int) / 2 ^ ((j : Nat) : Int).toNat) 1) = V.int 1) = n.testBit j := by
      rw [bitAnd_m1, Int.toNat_natCast, Nat.testBit_eq_decide_div_mod_eq]
      have z : ((n : Int) / 2 ^ j % 2) = ((n / 2 ^ j % 2 : Nat) : Int) := by norm_cast
      rw [z]
      refine decide_eq_decide.mpr ⟨fun h => ?_, fun h => by rw [h]; rfl⟩
      have := V.int.inj h
      omega
    have z := q H (Same.refl H)
    rw [← e] at z
    exact z
end
theorem vi_at {r : List Nat} {i : Nat} {x : V} (h : (VI r)[i]? = some x) : ∃ n, r[i]? = some n ∧ x = V.int (n : Nat) := by
  unfold VI at h
  rw [List.getElem?_map] at h
  cases e : r[i]? with
  | none => rw [e] at h; cases h
  | some n => rw [e] at h; exact ⟨n, rfl, (Option.some.inj h).symm⟩
theorem vi_len (r : List Nat) : (VI r).length = r.length := List.length_map _
theorem isI_small {n : Nat} (h : n ≤ 1000) : isI (.int (n : Nat)) = true := by
  unfold isI
  refine decide_eq_true ?_
  rw [if_neg (by omega)]
  exact Int.lt_of_le_of_lt (Int.ofNat_le.mpr h) (by decide +kernel)
theorem vi_flat (r : List Nat) : (VI r).all flatV = true := by
  unfold VI
  rw [List.all_map, List.all_eq_true]
  intro n _
  rfl
theorem inV_vi (n : Nat) : ∀ r : List Nat, inV (.int (n : Nat)) (VI r) = decide (n ∈ r)
  | [] => rfl
  | m :: r => by
    have e : inV (.int (n : Nat)) (VI (m :: r)) = (eqV (V.int (m : Nat)) (V.int (n : Nat)) || inV (.int (n : Nat)) (VI r)) := rfl
    rw [e, inV_vi n r]
    show ((((m : Nat) : Int) == ((n : Nat) : Int)) || decide (n ∈ r)) = _
    by_cases h : n = m
    · subst h
      simp
    · rw [beq_eq_false_iff_ne.mpr (show ((m : Nat) : Int) ≠ ((n : Nat) : Int) by omega), Bool.false_or]
      simp [h]
section
variable {P : Program} {w : World} {K : PySem.W.Frag} {mg : Str → Option Value} {base : Heap} {C_Room : Addr}
theorem ok__is_row (T : Txt K mg C_Room) (c_is_ascending : CalN P w K mg base "is_ascending" 1 ["row"] (sp_is_ascending K)) (c_is_integer : CalN P w K mg base "is_integer" 1 ["value"] (sp_is_integer K)) {f : Addr} {fd : FuncData} (F : Fun K "_is_row" "_is_row" s__is_row f fd) : FnOk P w K mg base CX0 2 f fd ["row", "many"] (sp__is_row K) := by
  have nd := sc__is_row.nd
  refine F.ok sc__is_row (fun vs H Q E h => ?_) (fun cdv A outer s H vs Q E hr h => ?_)
  · obtain ⟨v, o, m, rfl, _⟩ := h
    rfl
  · obtain ⟨v, o, m, rfl, hv, q⟩ := h
    refine ⟨_, (pss_cons (ps_if (PW.pt (pw_or (pt_not (pt_val (pe_callB call_isi (by rfl) T.b_isinstance (by decide +kernel) (pa_cons (pv 0) (pa_cons (pe_bltn (v := .ty "tuple") (u := .type "tuple") (by rfl) T.b_tuple (by decide +kernel) rfl) pa_nil))))) (pw_or1 (pt_not (pt_val (pe_callB (cr_all rfl) (by rfl) T.b_all (by decide +kernel) (pa_cons (pe_lcD (own := [("world", 2)]) (by rfl) nd (pi_tup (pv 0)) (blkOk_by (own := [("world", 2)]) (N := ["row", "many", "world"]) (sc := (defScope s__is_row)) (by decide +kernel)) (fun _ _ _ _ _ => pg_name (i := 2) nd rfl (Or.inl rfl)) (fun _ _ _ _ _ => pts_nil) (fun _ _ _ _ _ => (pe_and (pe_callN c_is_integer (hr.mono (by first | decide | omega)) rfl (pa_cons (pv 2) pa_nil)) (pe_one (pe_chain op_le op_lt pe_int (pv 2) (pv 1)))))) pa_nil))))))) (pss_one (ps_ret pe_bl)) pss_nil)
      (pss_one (ps_ret (pe_callN c_is_ascending (hr.mono (by first | decide | omega)) rfl (pa_cons (pv 0) pa_nil))))), ?_⟩
    cases o with
    | some r =>
      obtain ⟨p, rfl, hp, few, low⟩ := hv
      refine ⟨.ref p, rfl, .ref p, .ty "tuple", .type "tuple", .type "tuple", true, rfl, .ty _, .base (.tup hp), kit_ty (by decide +kernel), true, rfl, iteF ?_⟩
      refine ⟨.ref p, rfl, p, rfl, ⟨_, SqT.of hp⟩, fun D hD => lc_tup (xs := VI r) (fun i H' => H' D = some (.lst (((r.take i).map fun n => decide (n < m)).map V.bl)) ∧ Same H H') ⟨upd_same, (Same.refl H).mut hD⟩ (fun i H' _ hP => SqT.of (hP.2 _ _ hp)) (fun i x H1 hx hP => ?_) (fun H1 hP => ?_)⟩
      · obtain ⟨hD1, s1⟩ := hP
        obtain ⟨n, hn, rfl⟩ := vi_at hx
        have li := lt_of_get hn
        refine ⟨rfl, tyes ?_⟩
        refine ⟨.int (n : Nat), rfl, .int (n : Nat), rfl, .inl ⟨_, rfl⟩, fun H2 s2 => ⟨isI (.int (n : Nat)), rfl, ?_⟩⟩
        rw [isI_small (low n (List.mem_of_getElem? hn))]
        refine iteT ?_
        have hD2 := s2 _ _ hD1
        have fin : ∀ b, b = decide (n < m) → ∃ acc, H2 D = some (.lst acc) ∧ acc.length < sizeLine ∧ ((upd H2 D (.lst (acc ++ [.bl b]))) D = some (.lst (((r.take (i + 1)).map fun n => decide (n < m)).map V.bl)) ∧ Same H (upd H2 D (.lst (acc ++ [.bl b])))) := fun b e => by
          refine ⟨_, hD2, lt_line' ?_, ?_, (s1.trans s2).mut hD⟩
          · rw [List.length_map, List.length_map, List.length_take]
            omega
          · rw [upd_same, e, take_next hn, List.map_append, List.map_append]
            rfl
        refine ⟨.int (n : Nat), rfl, 0, (n : Nat), rfl, rfl, decide ((0 : Int) ≤ ((n : Nat) : Int)), rfl, ?_⟩
        rw [decide_eq_true (show (0 : Int) ≤ ((n : Nat) : Int) by omega)]
        refine iteT ?_
        exact ⟨.int (m : Nat), rfl, (n : Nat), (m : Nat), rfl, rfl, fin _ (decide_eq_decide.mpr Int.ofNat_lt)⟩
      · obtain ⟨hD1, s1⟩ := hP
        rw [vi_len, List.take_length] at hD1
        refine ⟨D, _, rfl, SqL.of hD1, (r.map fun n => decide (n < m)).all id, rfl, ?_⟩
        have e : rowB m (some r) = ((r.map fun n => decide (n < m)).all id && ascB (VI r)) := by
          rw [List.all_map]
          rfl
        rw [e] at q
        cases hb : (r.map fun n => decide (n < m)).all id with
        | false =>
          rw [hb] at q
          refine iteT ?_
          exact q H1 s1
        | true =>
          rw [hb] at q
          refine iteF (nx_go ?_)
          refine ⟨.ref p, rfl, p, VI r, rfl, s1 _ _ hp, .inl ⟨r, rfl⟩, by rw [vi_len]; omega, fun H2 s2 => ?_⟩
          exact q H2 (s1.trans s2)
    | none =>
      rcases hv with ⟨t, ht, hk⟩ | ⟨p, x, rfl, hp, hx, hi⟩
      · exact ⟨v, rfl, v, .ty "tuple", t, .type "tuple", false, rfl, .ty _, ht H (Same.refl H), hk, false, rfl, iteT (iteT (q H (Same.refl H)))⟩
      · refine ⟨.ref p, rfl, .ref p, .ty "tuple", .type "tuple", .type "tuple", true, rfl, .ty _, .base (.tup hp), kit_ty (by decide +kernel), true, rfl, iteF ?_⟩
        refine ⟨.ref p, rfl, p, rfl, ⟨_, SqT.of hp⟩, fun D hD => lc_tup (xs := [x]) (fun i H' => H' D = some (.lst (([false].take i).map V.bl)) ∧ Same H H') ⟨upd_same, (Same.refl H).mut hD⟩ (fun i H' _ hP => SqT.of (hP.2 _ _ hp)) (fun i y H1 hy hP => ?_) (fun H1 hP => ?_)⟩
        · obtain ⟨hD1, s1⟩ := hP
          obtain ⟨rfl, rfl⟩ : i = 0 ∧ y = x := by
            cases i with
            | zero => exact ⟨rfl, (Option.some.inj hy).symm⟩
            | succ i => cases hy
          refine ⟨rfl, tyes ?_⟩
          refine ⟨y, rfl, y, rfl, hx _ s1, fun H2 s2 => ⟨isI y, rfl, ?_⟩⟩
          rw [hi]
          refine iteF ?_
          exact ⟨[], s2 _ _ hD1, by decide, upd_same, (s1.trans s2).mut hD⟩
        · obtain ⟨hD1, s1⟩ := hP
          exact ⟨D, [false], rfl, SqL.of hD1, false, rfl, iteT (q H1 s1)⟩
theorem ok__is_placed (T : Txt K mg C_Room) (c_has_bit : CalN P w K mg base "has_bit" 1 ["bits", "at"] (sp_has_bit K)) {f : Addr} {fd : FuncData} (F : Fun K "_is_placed" "_is_placed" s__is_placed f fd) : FnOk P w K mg base CX0 2 f fd ["world", "row", "above"] (sp__is_placed K) := by
  have nd := sc__is_placed.nd
  refine F.ok sc__is_placed (fun vs H Q E h => ?_) (fun cdv A outer s H vs Q E hr h => ?_)
  · obtain ⟨p, l, w, r, as, rfl, _⟩ := h
    rfl
  · obtain ⟨p, l, w, r, as, rfl, hp, hl, lw, low, few, q⟩ := h
    refine ⟨_, (pss_cons (ps_if (PW.pt (pw_or (pt_cmpR op_notIn_seq (pv 0) (pv 1) (by rfl)) (pw_or1 (pt_not (pt_val (pe_callB (cr_all rfl) (by rfl) T.b_all (by decide +kernel) (pa_cons (pe_lcD (own := [("other", 3)]) (by rfl) nd (pi_tup (pv 1)) (blkOk_by (own := [("other", 3)]) (N := ["world", "row", "above", "other"]) (sc := (defScope s__is_placed)) (by decide +kernel)) (fun _ _ _ _ _ => pg_name (i := 3) nd rfl (Or.inl rfl)) (fun _ _ _ _ _ => pts_nil) (fun _ _ _ _ _ => (pe_cmpR op_eq (pe_op op_or (pe_ix ix_list (pv 2) (pv 3) (fun _ _ => rfl)) (pe_ix ix_list (pv 2) (pv 0) (fun _ _ => rfl))) (pe_ix ix_list (pv 2) (pv 0) (fun _ _ => rfl)) (nomark _)))) pa_nil))))))) (pss_one (ps_ret pe_bl)) pss_nil)
      (pss_one (ps_ret (pe_not (pe_callB (cr_any rfl) (by rfl) T.b_any (by decide +kernel) (pa_cons (pe_lcD (own := [("other", 3)]) (by rfl) nd (pi_tup (pv 1)) (blkOk_by (own := [("other", 3)]) (N := ["world", "row", "above", "other"]) (sc := (defScope s__is_placed)) (by decide +kernel)) (fun _ _ _ _ _ => pg_name (i := 3) nd rfl (Or.inl rfl)) (fun _ _ _ _ _ => pts_one (pt_cmpR op_ne (pv 3) (pv 0) (nomark _))) (fun _ _ _ _ _ => (pe_callN c_has_bit (hr.mono (by first | decide | omega)) rfl (pa_cons (pe_ix ix_list (pv 2) (pv 3) (fun _ _ => rfl)) (pa_cons (pv 0) pa_nil))))) pa_nil)))))), ?_⟩
    have no : decide (w ∈ r) = false → plB w r as = false := fun h => by
      unfold plB
      rw [h]
      rfl
    refine ⟨.int (w : Nat), rfl, .ref p, rfl, p, VI r, rfl, .inr (SqT.of hp), rfl, vi_flat r, _, rfl, ?_⟩
    rw [inV_vi]
    cases hw : decide (w ∈ r) with
    | false =>
      have z := q H (Same.refl H)
      rw [no hw] at z
      exact iteT (iteT z)
    | true =>
      refine iteF ?_
      have asat : ∀ n, n < as.length → (VI as)[n]? = some (V.int (as.getD n 0 : Nat)) := fun n hn => by
        unfold VI
        rw [List.getElem?_map, List.getElem?_eq_getElem hn, List.getD_eq_getElem?_getD, List.getElem?_eq_getElem hn]
        rfl
      have orE : ∀ a b : Nat, decide (V.int (Builtin.bitOr (a : Int) (b : Int)) = V.int (b : Nat)) = decide (a ||| b = b) := fun a b => by
        rw [bitOr_nn (Int.natCast_nonneg a) (Int.natCast_nonneg b), Int.toNat_natCast, Int.toNat_natCast]
        refine decide_eq_decide.mpr ⟨fun h => ?_, fun h => by rw [h]⟩
        have := V.int.inj h
        omega
      refine ⟨.ref p, rfl, p, rfl, ⟨_, SqT.of hp⟩, fun D hD => lc_tup (xs := VI r) (fun i H' => H' D = some (.lst (((r.take i).map fun o => decide ((as.getD o 0) ||| (as.getD w 0) = as.getD w 0)).map V.bl)) ∧ Same H H') ⟨upd_same, (Same.refl H).mut hD⟩ (fun i H' _ hP => SqT.of (hP.2 _ _ hp)) (fun i x H1 hx hP => ?_) (fun H1 hP => ?_)⟩
      · obtain ⟨hD1, s1⟩ := hP
        obtain ⟨n, hn, rfl⟩ := vi_at hx
        have li := lt_of_get hn
        have nl := low n (List.mem_of_getElem? hn)
        refine ⟨rfl, tyes ?_⟩
        have hl1 := s1 _ _ hl
        refine ⟨.ref l, rfl, .int (n : Nat), rfl, l, _, (n : Nat), _, rfl, rfl, SqL.of hl1, atI_nat (asat n nl), .ref l, rfl, .int (w : Nat), rfl, l, _, (w : Nat), _, rfl, rfl, SqL.of hl1, atI_nat (asat w lw), _, _, rfl, rfl, .ref l, rfl, .int (w : Nat), rfl, l, _, (w : Nat), _, rfl, rfl, SqL.of hl1, atI_nat (asat w lw), rfl, ?_⟩
        refine ⟨_, hD1, lt_line' ?_, ?_, s1.mut hD⟩
        · rw [List.length_map, List.length_map, List.length_take]
          omega
        · rw [upd_same, take_next hn, List.map_append, List.map_append]
          exact congrArg (fun z => some (HO.lst (_ ++ [V.bl z]))) (orE _ _)
      · obtain ⟨hD1, s1⟩ := hP
        rw [vi_len, List.take_length] at hD1
        refine ⟨D, _, rfl, SqL.of hD1, (r.map fun o => decide ((as.getD o 0) ||| (as.getD w 0) = as.getD w 0)).all id, rfl, ?_⟩
        have e : plB w r as = ((r.map fun o => decide ((as.getD o 0) ||| (as.getD w 0) = as.getD w 0)).all id && !((r.filter fun o => decide (o ≠ w)).any fun o => (as.getD o 0).testBit w)) := by
          unfold plB
          rw [hw, Bool.true_and, List.all_map]
          rfl
        rw [e] at q
        cases hb : (r.map fun o => decide ((as.getD o 0) ||| (as.getD w 0) = as.getD w 0)).all id with
        | false =>
          rw [hb] at q
          exact iteT (q H1 s1)
        | true =>
          rw [hb, Bool.true_and] at q
          refine iteF (nx_go ?_)
          have hp1 := s1 _ _ hp
          have hl1 := s1 _ _ hl
          refine ⟨.ref p, rfl, p, rfl, ⟨_, SqT.of hp1⟩, fun D2 hD2 => lc_tup (xs := VI r) (fun i H' => H' D2 = some (.lst ((((r.take i).filter fun o => decide (o ≠ w)).map fun o => (as.getD o 0).testBit w).map V.bl)) ∧ Same H1 H') ⟨upd_same, (Same.refl H1).mut hD2⟩ (fun i H' _ hP => SqT.of (hP.2 _ _ hp1)) (fun i x H3 hx hP => ?_) (fun H3 hP => ?_)⟩
          · obtain ⟨hD3, s3⟩ := hP
            obtain ⟨n, hn, rfl⟩ := vi_at hx
            have li := lt_of_get hn
            have nl := low n (List.mem_of_getElem? hn)
            refine ⟨rfl, ?_⟩
            refine ⟨.int (n : Nat), rfl, .int (w : Nat), rfl, rfl, _, rfl, ?_⟩
            have et : (r.take (i + 1)).filter (fun o => decide (o ≠ w)) = (r.take i).filter (fun o => decide (o ≠ w)) ++ [n].filter (fun o => decide (o ≠ w)) := by rw [take_next hn, List.filter_append]
            by_cases e : n = w
            · have e1 : [n].filter (fun o => decide (o ≠ w)) = [] := by
                rw [List.filter_cons_of_neg (by simp [e])]
                rfl
              rw [e1, List.append_nil] at et
              rw [decide_eq_true (show V.int ((n : Nat) : Int) = V.int ((w : Nat) : Int) by rw [e])]
              refine iteF ⟨?_, s3⟩
              rw [et]
              exact hD3
            · have e1 : [n].filter (fun o => decide (o ≠ w)) = [n] := by
                rw [List.filter_cons_of_pos (by simp [e])]
                rfl
              rw [e1] at et
              rw [decide_eq_false (show ¬ V.int ((n : Nat) : Int) = V.int ((w : Nat) : Int) from fun z => e (by have := V.int.inj z; omega))]
              refine iteT ?_
              have hl3 := s3 _ _ hl1
              refine ⟨.ref l, rfl, .int (n : Nat), rfl, l, _, (n : Nat), _, rfl, rfl, SqL.of hl3, atI_nat (asat n nl), .int (w : Nat), rfl, as.getD n 0, w, rfl, fun H4 s4 => ?_⟩
              refine ⟨_, s4 _ _ hD3, lt_line' ?_, ?_, (s3.trans s4).mut hD2⟩
              · have := List.length_filter_le (fun o => decide (o ≠ w)) (r.take i)
                rw [List.length_take] at this
                rw [List.length_map, List.length_map]
                omega
              · rw [upd_same, et, List.map_append, List.map_append]
                rfl
          · obtain ⟨hD3, s3⟩ := hP
            rw [vi_len, List.take_length] at hD3
            refine ⟨D2, _, rfl, SqL.of hD3, ?_⟩
            have z := q H3 (s1.trans s3)
            refine ⟨_, rfl, ?_⟩
            rw [List.any_map]
            exact z
end


end My
namespace My
open PySem PySem.Spec PyProof.Rows L2 TL
set_option pp.maxSteps 3000
set_option pp.deepTerms false
def plsB (rs : List (List Nat)) : List Bool := (List.range rs.length).map fun i => plB i (rs.getD i []) (rs.map bitsN)
theorem pls_at {rs : List (List Nat)} {i : Nat} {r : List Nat} (h : rs[i]? = some r) : (plsB rs)[i]? = some (plB i r (rs.map bitsN)) := by
  unfold plsB
  rw [List.getElem?_map, List.getElem?_range (lt_of_get h)]
  show some (plB i (rs.getD i []) (rs.map bitsN)) = _
  rw [List.getD_eq_getElem?_getD, h]
  rfl
theorem pls_iff {rs : List (List Nat)} (len : 1 ≤ rs.length ∧ rs.length ≤ 60) (asc : ∀ row ∈ rs, row.Pairwise (· < ·) ∧ ∀ n ∈ row, n < rs.length) : (plsB rs).all id = true ↔ OrdP rs := by
  rw [List.all_eq_true]
  constructor
  · intro h
    refine ⟨len, asc, fun w row hw => ?_⟩
    exact (pl_iff asc hw).mp (h _ (List.mem_of_getElem? (pls_at hw)))
  · rintro ⟨_, _, h⟩ b hb
    obtain ⟨i, hi⟩ := List.mem_iff_getElem?.mp hb
    have li : i < rs.length := by
      have := lt_of_get hi
      unfold plsB at this
      rw [List.length_map, List.length_range] at this
      exact this
    have hw := List.getElem?_eq_getElem li
    rw [pls_at hw] at hi
    rw [← Option.some.inj hi]
    exact (pl_iff asc hw).mpr (h i _ hw)
theorem ordO_some {rs : List (List Nat)} : OrdO (some (rs.map some)) ↔ OrdP rs := by
  refine ⟨fun ⟨rs2, e, h⟩ => ?_, fun h => ⟨rs, rfl, h⟩⟩
  have e1 : rs = rs2 := (List.map_inj_right (fun _ _ z => Option.some.inj z)).mp (Option.some.inj e)
  rw [e1]
  exact h
theorem getE {α : Type} {l : List α} {i : Nat} {x : α} {f : α → V} {y : V} (h : l[i]? = some x) (e : f x = y) : (l.map f)[i]? = some y := by
  rw [List.getElem?_map, h, ← e]
  rfl
section
variable {P : Program} {w : World} {K : PySem.W.Frag} {mg : Str → Option Value} {base : Heap} {C_Room : Addr}
theorem ok_is_order (T : Txt K mg C_Room) (c_bits_of : CalN P w K mg base "bits_of" 1 ["row"] (sp_bits_of K)) (c__is_placed : CalN P w K mg base "_is_placed" 2 ["world", "row", "above"] (sp__is_placed K)) (c__is_row : CalN P w K mg base "_is_row" 2 ["row", "many"] (sp__is_row K)) {f : Addr} {fd : FuncData} (F : Fun K "is_order" "is_order" s_is_order f fd) : FnOk P w K mg base CX0 3 f fd ["reach", "limit"] (sp_is_order K) := by
  have nd := sc_is_order.nd
  refine F.ok sc_is_order (fun vs H Q E h => ?_) (fun cdv A outer s H vs Q E hr h => ?_)
  · obtain ⟨v, o, rfl, _⟩ := h
    rfl
  · obtain ⟨v, o, rfl, hv, q⟩ := h
    refine ⟨_, (pss_cons (ps_if (PW.pt (pw_or (pt_not (pt_val (pe_callB call_isi (by rfl) T.b_isinstance (by decide +kernel) (pa_cons (pv 0) (pa_cons (pe_bltn (v := .ty "tuple") (u := .type "tuple") (by rfl) T.b_tuple (by decide +kernel) rfl) pa_nil))))) (pw_or1 (pt_not (pt_chain op_le op_le pe_int (pe_callB call_len (by rfl) T.b_len (by decide +kernel) (pa_cons (pv 0) pa_nil)) (pv 1)))))) (pss_one (ps_ret pe_bl)) pss_nil)
      (pss_cons (ps_if (pt_not (pt_val (pe_callB (cr_all rfl) (by rfl) T.b_all (by decide +kernel) (pa_cons (pe_lcD (own := [("row", 3)]) (by rfl) nd (pi_tup (pv 0)) (blkOk_by (own := [("row", 3)]) (N := ["reach", "limit", "above", "row", "world"]) (sc := (defScope s_is_order)) (by decide +kernel)) (fun _ _ _ _ _ => pg_name (i := 3) nd rfl (Or.inl rfl)) (fun _ _ _ _ _ => pts_nil) (fun _ _ _ _ _ => (pe_callN c__is_row (hr.mono (by first | decide | omega)) rfl (pa_cons (pv 3) (pa_cons (pe_callB call_len (by rfl) T.b_len (by decide +kernel) (pa_cons (pv 0) pa_nil)) pa_nil))))) pa_nil)))) (pss_one (ps_ret pe_bl)) pss_nil)
      (pss_cons (ps_set (i := 2) nd rfl (.inr rfl) (pe_lcD (own := [("row", 3)]) (by rfl) nd (pi_tup (pv 0)) (blkOk_by (own := [("row", 3)]) (N := ["reach", "limit", "above", "row", "world"]) (sc := (defScope s_is_order)) (by decide +kernel)) (fun _ _ _ _ _ => pg_name (i := 3) nd rfl (Or.inl rfl)) (fun _ _ _ _ _ => pts_nil) (fun _ _ _ _ _ => (pe_callN c_bits_of (hr.mono (by first | decide | omega)) rfl (pa_cons (pv 3) pa_nil)))))
      (pss_one (ps_ret (pe_callB (cr_all rfl) (by rfl) T.b_all (by decide +kernel) (pa_cons (pe_lcD (own := [("world", 4), ("row", 3)]) (by rfl) nd (pi_enumT (by rfl) T.b_enumerate (pa_cons (pv 0) pa_nil)) (blkOk_by (own := [("world", 4), ("row", 3)]) (N := ["reach", "limit", "above", "row", "world"]) (sc := (defScope s_is_order)) (by decide +kernel)) (fun _ _ _ _ _ => pg_tup (by rfl) (pgs_cons (pg_name (i := 4) nd rfl (Or.inl rfl)) (pgs_cons (pg_name (i := 3) nd rfl (Or.inl rfl)) pgs_nil))) (fun _ _ _ _ _ => pts_nil) (fun _ _ _ _ _ => (pe_callN c__is_placed (hr.mono (by first | decide | omega)) rfl (pa_cons (pv 4) (pa_cons (pv 3) (pa_cons (pv 2) pa_nil)))))) pa_nil))))))), ?_⟩
    cases o with
    | none =>
      obtain ⟨t, ht, hk⟩ := hv
      exact ⟨v, rfl, v, .ty "tuple", t, .type "tuple", false, rfl, .ty _, ht H (Same.refl H), hk, false, rfl, iteT (iteT (q false H ⟨fun z => (by cases z), fun ⟨_, z, _⟩ => by cases z⟩ (Same.refl H)))⟩
    | some o =>
      obtain ⟨p, xs, rfl, hp, hx, few⟩ := hv
      have lo := hx.1
      have bad : ∀ b, b = false → ¬ OrdO (some o) → (b = true ↔ OrdO (some o)) := fun b e n => ⟨fun z => (by rw [e] at z; cases z), fun z => absurd z n⟩
      have lenN : ¬ (1 ≤ o.length ∧ o.length ≤ 60) → ¬ OrdO (some o) := fun n ⟨rs, e, h⟩ => n (by
        rw [Option.some.inj e, List.length_map]
        exact h.1)
      refine ⟨.ref p, rfl, .ref p, .ty "tuple", .type "tuple", .type "tuple", true, rfl, .ty _, .base (.tup hp), kit_ty (by decide +kernel), true, rfl, iteF ?_⟩
      refine ⟨.ref p, rfl, .ref p, xs.length, rfl, .inr ⟨xs, .of hp, rfl⟩, 1, (xs.length : Int), rfl, rfl, _, rfl, ?_⟩
      refine ite2 (fun h1 => ?_) (fun h1 => ?_)
      · have h1' := of_decide_eq_true h1
        refine ⟨.int 60, rfl, (xs.length : Int), 60, rfl, rfl, _, rfl, ?_⟩
        by_cases h2 : (xs.length : Int) ≤ 60
        · rw [decide_eq_true h2]
          refine iteF (nx_go ?_)
          have len : 1 ≤ o.length ∧ o.length ≤ 60 := by omega
          refine ⟨.ref p, rfl, p, rfl, ⟨_, SqT.of hp⟩, fun D hD => lc_tup (xs := xs) (fun i H' => H' D = some (.lst (((o.take i).map (rowB o.length)).map V.bl)) ∧ Same H H') ⟨upd_same, (Same.refl H).mut hD⟩ (fun i H' _ hP => SqT.of (hP.2 _ _ hp)) (fun i x H1 hxi hP => ?_) (fun H1 hP => ?_)⟩
          · obtain ⟨hD1, s1⟩ := hP
            obtain ⟨r, hr, hv⟩ := hx.2 i x hxi
            have li := lt_of_get hr
            refine ⟨rfl, tyes ?_⟩
            refine ⟨x, rfl, .ref p, rfl, .ref p, xs.length, rfl, .inr ⟨xs, .of (s1 _ _ hp), rfl⟩, x, r, xs.length, rfl, hv.same s1, fun H2 s2 => ?_⟩
            rw [lo]
            refine ⟨_, s2 _ _ hD1, lt_line' ?_, ?_, (s1.trans s2).mut hD⟩
            · rw [List.length_map, List.length_map, List.length_take]
              omega
            · rw [upd_same, take_next hr, List.map_append, List.map_append]
              rfl
          · obtain ⟨hD1, s1⟩ := hP
            rw [lo, List.take_length] at hD1
            refine ⟨D, _, rfl, SqL.of hD1, (o.map (rowB o.length)).all id, rfl, ?_⟩
            cases hb : (o.map (rowB o.length)).all id with
            | false =>
              refine iteT (q false H1 (bad false rfl fun ⟨rs, e, h⟩ => ?_) s1)
              have z := rows_all h.2.1
              rw [List.all_map, Option.some.inj e, List.length_map] at hb
              rw [show (id ∘ rowB rs.length) = rowB rs.length from rfl, z] at hb
              cases hb
            | true =>
              refine iteF (nx_go ?_)
              have hb2 : o.all (rowB o.length) = true := by
                rw [List.all_map] at hb
                exact hb
              obtain ⟨rs, e, asc⟩ := rows_some hb2
              subst e
              have el : (rs.map some).length = rs.length := List.length_map _
              rw [el] at asc len lo
              have rowAt : ∀ {H2 : Hp}, Same H H2 → ∀ {i : Nat} {x : V}, xs[i]? = some x → ∃ r q, rs[i]? = some r ∧ x = .ref q ∧ H2 q = some (.tup (VI r)) ∧ r.length ≤ 100 := fun {H2} s2 {i x} e => by
                obtain ⟨r, hr, hv⟩ := hx.2 i x e
                rw [List.getElem?_map] at hr
                cases er : rs[i]? with
                | none => rw [er] at hr; cases hr
                | some r2 =>
                  rw [er] at hr
                  obtain rfl := Option.some.inj hr
                  obtain ⟨qd, rfl, hq, l100, _⟩ := hv
                  exact ⟨r2, qd, rfl, rfl, s2 _ _ hq, l100⟩
              have hp1 := s1 _ _ hp
              refine ⟨.ref p, rfl, p, rfl, ⟨_, SqT.of hp1⟩, fun D2 hD2 => lc_tup (xs := xs) (fun i H' => H' D2 = some (.lst (VI ((rs.take i).map bitsN))) ∧ Same H1 H') ⟨upd_same, (Same.refl H1).mut hD2⟩ (fun i H' _ hP => SqT.of (hP.2 _ _ hp1)) (fun i x H2 hxi hP => ?_) (fun H2 hP => asg_go2 ?_)⟩
              · obtain ⟨hD3, s3⟩ := hP
                obtain ⟨r, qd, hr, rfl, hq, l100⟩ := rowAt (s1.trans s3) hxi
                have li := lt_of_get hr
                refine ⟨rfl, tyes ?_⟩
                refine ⟨.ref qd, rfl, qd, r, rfl, hq, l100, fun n hn => by have := (asc r (List.mem_of_getElem? hr)).2 n hn; omega, fun H4 s4 => ?_⟩
                refine ⟨_, s4 _ _ hD3, lt_line' ?_, ?_, (s3.trans s4).mut hD2⟩
                · rw [vi_len, List.length_map, List.length_take]
                  omega
                · rw [upd_same, take_next hr, List.map_append]
                  unfold VI
                  rw [List.map_append]
                  rfl
              · obtain ⟨hD3, s3⟩ := hP
                dsimp only [List.set]
                rw [lo, List.take_length] at hD3
                have s4 := s1.trans s3
                have hp2 := s4 _ _ hp
                refine ⟨.ref p, rfl, p, xs, rfl, SqT.of hp2, fun D3 hD4 => lc_enumT (xs := xs) (fun i H' => H' D3 = some (.lst (((plsB rs).take i).map V.bl)) ∧ Same H2 H') ⟨upd_same, (Same.refl H2).mut hD4⟩ (fun i H' _ hP => SqT.of (hP.2 _ _ hp2)) (fun i x H3 T0 hxi hP hT0 => ?_) (fun H3 hP => ?_)⟩
                · obtain ⟨hD5, s5⟩ := hP
                  obtain ⟨r, qd, hr, rfl, hq, l100⟩ := rowAt (s4.trans s5) hxi
                  have li := lt_of_get hr
                  have sT := s5.new (o := .tup [.int (i : Nat), .ref qd]) hT0
                  have hD6 := (upd_ne (o := .tup [.int (i : Nat), .ref qd]) (ne_of_none hD5 hT0)).trans hD5
                  have hq6 := (upd_ne (o := .tup [.int (i : Nat), .ref qd]) (ne_of_none hq hT0)).trans hq
                  have hT6 : upd H3 T0 (.tup [V.int (i : Nat), .ref qd]) T0 = some (.tup [V.int (i : Nat), .ref qd]) := upd_same
                  generalize upd H3 T0 (.tup [V.int (i : Nat), .ref qd]) = G at sT hD6 hq6 hT6 ⊢
                  refine ⟨T0, _, rfl, .of hT6, rfl, _, _, rfl, asg_go2 ⟨_, _, rfl, asg_go2 ⟨rfl, ?_⟩⟩⟩
                  refine ⟨rfl, tyes ?_⟩
                  refine ⟨.int (i : Nat), rfl, .ref qd, rfl, .ref D2, rfl, qd, D2, i, r, rs.map bitsN, rfl, hq6, sT _ _ hD3, by rw [List.length_map]; exact li, fun n hn => by rw [List.length_map]; exact (asc r (List.mem_of_getElem? hr)).2 n hn, l100, fun H4 s6 => ?_⟩
                  refine ⟨_, s6 _ _ hD6, lt_line' ?_, ?_, (sT.trans s6).mut hD4⟩
                  · rw [List.length_map, List.length_take]
                    omega
                  · rw [upd_same, bl_snoc (pls_at hr)]
                · obtain ⟨hD5, s5⟩ := hP
                  have lp : (plsB rs).length = rs.length := by unfold plsB; rw [List.length_map, List.length_range]
                  rw [lo, ← lp, List.take_length] at hD5
                  refine ⟨D3, _, rfl, SqL.of hD5, ?_⟩
                  exact q _ H3 ((pls_iff len asc).trans ordO_some.symm) (s4.trans s5)
        · rw [decide_eq_false h2]
          exact iteT (q false H (bad false rfl (lenN (by omega))) (Same.refl H))
      · have h1' : ¬ (1 : Int) ≤ xs.length := fun z => h1 (decide_eq_true z)
        exact ⟨false, rfl, iteT (q false H (bad false rfl (lenN (by omega))) (Same.refl H))⟩
end


end My
namespace My
open PySem PySem.Spec PyProof.Rows L2 TL
set_option pp.maxSteps 3000
set_option pp.deepTerms false
/-! ### rooms: truths -/
/-- a row of words, or no tuple -/
def RowS (K : PySem.W.Frag) (H : Hp) (v : V) : Option (List Str) → Prop
  | some ws => ∃ q, v = .ref q ∧ H q = some (.tup (ws.map V.str)) ∧ ws.length ≤ 100 ∧ ∀ x ∈ ws, x.length ≤ 1000 ∧ ∀ c ∈ x.cps.toList, c < 128
  | none => ∃ t, (∀ H', Same H H' → TyX K H' v t) ∧ PySem.W.kitOne K t (.type "tuple") = some false
theorem RowS.same {K : PySem.W.Frag} {H H' : Hp} (s : Same H H') {v : V} : ∀ {o : Option (List Str)}, RowS K H v o → RowS K H' v o
  | some r, ⟨q, e, h, x⟩ => ⟨q, e, s _ _ h, x⟩
  | none, ⟨t, h, k⟩ => ⟨t, fun H2 s2 => h H2 (s.trans s2), k⟩
def RowsS (K : PySem.W.Frag) (H : Hp) (xs : List V) (o : List (Option (List Str))) : Prop := xs.length = o.length ∧ ∀ (i : Nat) (x : V), xs[i]? = some x → ∃ r, o[i]? = some r ∧ RowS K H x r
theorem RowsS.same {K : PySem.W.Frag} {H H' : Hp} (s : Same H H') {xs : List V} {o : List (Option (List Str))} (h : RowsS K H xs o) : RowsS K H' xs o := ⟨h.1, fun i x e => have ⟨r, e1, e2⟩ := h.2 i x e; ⟨r, e1, e2.same s⟩⟩
def TruV (K : PySem.W.Frag) (H : Hp) (v : V) : Option (List (Option (List Str))) → Prop
  | some o => ∃ p xs, v = .ref p ∧ H p = some (.tup xs) ∧ RowsS K H xs o ∧ o.length ≤ 100
  | none => ∃ t, (∀ H', Same H H' → TyX K H' v t) ∧ PySem.W.kitOne K t (.type "tuple") = some false
def wordsB : Option (List Str) → Bool
  | some ws => (ws.all fun x => isW (.str x)) && ascB (ws.map V.str)
  | none => false
def TruP (rs : List (List Nat)) (ts : List (List Str)) : Prop := ts.length = rs.length ∧ (∀ row ∈ ts, row.Pairwise ltS ∧ ∀ x ∈ row, isW (.str x) = true) ∧
  ∀ (w : Nat) (row : List Nat), rs[w]? = some row → ∀ o ∈ row, ∀ tw to, ts[w]? = some tw → ts[o]? = some to → ∀ x ∈ tw, x ∈ to
def TruO (rs : List (List Nat)) (o : Option (List (Option (List Str)))) : Prop := ∃ ts, o = some (ts.map some) ∧ TruP rs ts
theorem words_some : ∀ {o : List (Option (List Str))}, o.all wordsB = true → ∃ ts : List (List Str), o = ts.map some ∧ ∀ row ∈ ts, row.Pairwise ltS ∧ ∀ x ∈ row, isW (.str x) = true
  | [], _ => ⟨[], rfl, fun _ h => nomatch h⟩
  | none :: o, h => by cases h
  | some r :: o, h => by
    obtain ⟨h1, h2⟩ := Bool.and_eq_true_iff.mp (show (wordsB (some r) && o.all wordsB) = true from h)
    obtain ⟨rs, rfl, h3⟩ := words_some h2
    obtain ⟨h4, h5⟩ := Bool.and_eq_true_iff.mp h1
    refine ⟨r :: rs, rfl, fun row hr => ?_⟩
    rcases List.mem_cons.mp hr with rfl | hr
    · exact ⟨(asc_strs _).mp h5, fun n hn => List.all_eq_true.mp h4 n hn⟩
    · exact h3 row hr
theorem words_all {ts : List (List Str)} (h : ∀ row ∈ ts, row.Pairwise ltS ∧ ∀ x ∈ row, isW (.str x) = true) : (ts.map some).all wordsB = true := by
  rw [List.all_map, List.all_eq_true]
  intro row hr
  obtain ⟨h1, h2⟩ := h row hr
  show ((row.all fun x => isW (.str x)) && ascB (row.map V.str)) = true
  rw [Bool.and_eq_true_iff]
  exact ⟨List.all_eq_true.mpr h2, (asc_strs row).mpr h1⟩
theorem truO_some {rs : List (List Nat)} {ts : List (List Str)} : TruO rs (some (ts.map some)) ↔ TruP rs ts := by
  refine ⟨fun ⟨ts2, e, h⟩ => ?_, fun h => ⟨ts, rfl, h⟩⟩
  have e1 : ts = ts2 := (List.map_inj_right (fun _ _ z => Option.some.inj z)).mp (Option.some.inj e)
  rw [e1]
  exact h
def sp__is_row_of_atoms (K : PySem.W.Frag) : Sp := fun vs H Q _ => ∃ v o, vs = [v] ∧ RowS K H v o ∧ ∀ H', Same H H' → Q (.bl (wordsB o)) H'
def sp_are_truths (K : PySem.W.Frag) : Sp := fun vs H Q _ => ∃ (p : Addr) (xs : List V) (rs : List (List Nat)) (v : V) (t : Option (List (Option (List Str)))), vs = [.ref p, v] ∧ H p = some (.tup xs) ∧ RowsV K H xs (rs.map some) ∧ OrdP rs ∧ TruV K H v t ∧
  ∀ b H', (b = true ↔ TruO rs t) → Same H H' → Q (.bl b) H'
theorem walk_enumT {K : PySem.W.Frag} {a : Addr} {xs : List V} : Walk (Itet K a) xs.length (fun H => SqT K H a xs) (YPair (fun i => some (.int (i : Nat))) (fun i => xs[i]?)) where
  goes := fun i H lt q => ⟨xs, xs[i], q, List.getElem?_eq_getElem lt⟩
  stops := fun H q => ⟨xs, q, rfl⟩
  yields := fun i H v H' lt q y => by
    obtain ⟨T, z, h1, h2, h3, h4⟩ := y
    exact ⟨T, _, z, h1, h2, h3, rfl, h4 xs q⟩
/-- a row of words as a dict -/
def trueD (ws : List Str) : List (Key × V) := ws.map fun x => ((Sum.inr x : Key), V.bl true)
theorem trueD_has (ws : List Str) (x : Str) : (valV (trueD ws) (Sum.inr x)).isSome = decide (x ∈ ws) := by
  rw [← valV_any]
  unfold trueD
  rw [List.any_map]
  by_cases h : x ∈ ws
  · rw [decide_eq_true h, List.any_eq_true]
    exact ⟨x, h, by simp⟩
  · rw [decide_eq_false h, List.any_eq_false]
    intro y hy
    simp only [Function.comp, decide_eq_true_eq]
    exact fun e => h (Sum.inr.inj e ▸ hy)
theorem ltS_ne {a b : Str} (h : ltS a b) : a ≠ b := fun e => by
  subst e
  exact List.lt_irrefl _ h
theorem str_at {ws : List Str} {i : Nat} {x : V} (h : (ws.map V.str)[i]? = some x) : ∃ y, ws[i]? = some y ∧ x = V.str y := by
  rw [List.getElem?_map] at h
  cases e : ws[i]? with
  | none => rw [e] at h; cases h
  | some n => rw [e] at h; exact ⟨n, rfl, (Option.some.inj h).symm⟩
section
variable {P : Program} {w : World} {K : PySem.W.Frag} {mg : Str → Option Value} {base : Heap} {C_Room : Addr}
theorem ok__is_row_of_atoms (T : Txt K mg C_Room) (c_is_ascending : CalN P w K mg base "is_ascending" 1 ["row"] (sp_is_ascending K)) (c_is_word : CalN P w K mg base "is_word" 1 ["value"] (sp_is_word K)) {f : Addr} {fd : FuncData} (F : Fun K "_is_row_of_atoms" "_is_row_of_atoms" s__is_row_of_atoms f fd) : FnOk P w K mg base CX0 2 f fd ["row"] (sp__is_row_of_atoms K) := by
  have nd := sc__is_row_of_atoms.nd
  refine F.ok sc__is_row_of_atoms (fun vs H Q E h => ?_) (fun cdv A outer s H vs Q E hr h => ?_)
  · obtain ⟨v, o, rfl, _⟩ := h
    rfl
  · obtain ⟨v, o, rfl, hv, q⟩ := h
    refine ⟨_, (pss_one (ps_ret (pe_and (pe_callB call_isi (by rfl) T.b_isinstance (by decide +kernel) (pa_cons (pv 0) (pa_cons (pe_bltn (v := .ty "tuple") (u := .type "tuple") (by rfl) T.b_tuple (by decide +kernel) rfl) pa_nil))) (pe_and (pe_callB (cr_all rfl) (by rfl) T.b_all (by decide +kernel) (pa_cons (pe_lcD (own := [("word", 1)]) (by rfl) nd (pi_tup (pv 0)) (blkOk_by (own := [("word", 1)]) (N := ["row", "word"]) (sc := (defScope s__is_row_of_atoms)) (by decide +kernel)) (fun _ _ _ _ _ => pg_name (i := 1) nd rfl (Or.inl rfl)) (fun _ _ _ _ _ => pts_nil) (fun _ _ _ _ _ => (pe_callN c_is_word (hr.mono (by first | decide | omega)) rfl (pa_cons (pv 1) pa_nil)))) pa_nil)) (pe_one (pe_callN c_is_ascending (hr.mono (by first | decide | omega)) rfl (pa_cons (pv 0) pa_nil))))))), ?_⟩
    cases o with
    | none =>
      obtain ⟨t, ht, hk⟩ := hv
      exact ⟨v, rfl, v, .ty "tuple", t, .type "tuple", false, rfl, .ty _, ht H (Same.refl H), hk, false, rfl, iteF (q H (Same.refl H))⟩
    | some ws =>
      obtain ⟨p, rfl, hp, few, wd⟩ := hv
      refine ⟨.ref p, rfl, .ref p, .ty "tuple", .type "tuple", .type "tuple", true, rfl, .ty _, .base (.tup hp), kit_ty (by decide +kernel), true, rfl, iteT ?_⟩
      refine ⟨.ref p, rfl, p, rfl, ⟨_, SqT.of hp⟩, fun D hD => lc_tup (xs := ws.map V.str) (fun i H' => H' D = some (.lst (((ws.take i).map fun x => isW (.str x)).map V.bl)) ∧ Same H H') ⟨upd_same, (Same.refl H).mut hD⟩ (fun i H' _ hP => SqT.of (hP.2 _ _ hp)) (fun i x H1 hx hP => ?_) (fun H1 hP => ?_)⟩
      · obtain ⟨hD1, s1⟩ := hP
        obtain ⟨y, hy, rfl⟩ : ∃ y, ws[i]? = some y ∧ x = V.str y := by
          rw [List.getElem?_map] at hx
          cases e : ws[i]? with
          | none => rw [e] at hx; cases hx
          | some n => rw [e] at hx; exact ⟨n, rfl, (Option.some.inj hx).symm⟩
        have li := lt_of_get hy
        obtain ⟨y1, y2⟩ := wd y (List.mem_of_getElem? hy)
        refine ⟨rfl, tyes ?_⟩
        refine ⟨.str y, rfl, .str y, rfl, .inl ⟨y, rfl, y1, y2⟩, fun H2 s2 => ?_⟩
        refine ⟨_, s2 _ _ hD1, lt_line' ?_, ?_, (s1.trans s2).mut hD⟩
        · rw [List.length_map, List.length_map, List.length_take]
          omega
        · rw [upd_same, take_next hy, List.map_append, List.map_append]
          rfl
      · obtain ⟨hD1, s1⟩ := hP
        rw [List.length_map, List.take_length] at hD1
        refine ⟨D, _, rfl, SqL.of hD1, (ws.map fun x => isW (.str x)).all id, rfl, ?_⟩
        have e : wordsB (some ws) = ((ws.map fun x => isW (.str x)).all id && ascB (ws.map V.str)) := by
          rw [List.all_map]
          rfl
        rw [e] at q
        cases hb : (ws.map fun x => isW (.str x)).all id with
        | false =>
          rw [hb] at q
          exact iteF (q H1 s1)
        | true =>
          rw [hb, Bool.true_and] at q
          refine iteT ?_
          exact ⟨.ref p, rfl, p, _, rfl, s1 _ _ hp, .inr ⟨ws, rfl⟩, by rw [List.length_map]; omega, fun H2 s2 => q H2 (s1.trans s2)⟩
theorem ok_are_truths (T : Txt K mg C_Room) (c__is_row_of_atoms : CalN P w K mg base "_is_row_of_atoms" 2 ["row"] (sp__is_row_of_atoms K)) {f : Addr} {fd : FuncData} (F : Fun K "are_truths" "are_truths" s_are_truths f fd) : FnOk P w K mg base CX0 3 f fd ["reach", "truths"] (sp_are_truths K) := by
  have nd := sc_are_truths.nd
  refine F.ok sc_are_truths (fun vs H Q E h => ?_) (fun cdv A outer s H vs Q E hr h => ?_)
  · obtain ⟨p, xs, rs, v, t, rfl, _⟩ := h
    rfl
  · obtain ⟨p, xs, rs, v, o, rfl, hp, hx, ord, hv, q⟩ := h
    refine ⟨_, (pss_cons (ps_if (PW.pt (pw_or (pt_not (pt_val (pe_callB call_isi (by rfl) T.b_isinstance (by decide +kernel) (pa_cons (pv 1) (pa_cons (pe_bltn (v := .ty "tuple") (u := .type "tuple") (by rfl) T.b_tuple (by decide +kernel) rfl) pa_nil))))) (pw_or1 (pt_cmpR op_ne (pe_callB call_len (by rfl) T.b_len (by decide +kernel) (pa_cons (pv 1) pa_nil)) (pe_callB call_len (by rfl) T.b_len (by decide +kernel) (pa_cons (pv 0) pa_nil)) (nomark _))))) (pss_one (ps_ret pe_bl)) pss_nil)
      (pss_cons (ps_if (pt_not (pt_val (pe_callB (cr_all rfl) (by rfl) T.b_all (by decide +kernel) (pa_cons (pe_lcD (own := [("row", 3)]) (by rfl) nd (pi_tup (pv 1)) (blkOk_by (own := [("row", 3)]) (N := ["reach", "truths", "true", "row", "word", "world", "other"]) (sc := (defScope s_are_truths)) (by decide +kernel)) (fun _ _ _ _ _ => pg_name (i := 3) nd rfl (Or.inl rfl)) (fun _ _ _ _ _ => pts_nil) (fun _ _ _ _ _ => (pe_callN c__is_row_of_atoms (hr.mono (by first | decide | omega)) rfl (pa_cons (pv 3) pa_nil)))) pa_nil)))) (pss_one (ps_ret pe_bl)) pss_nil)
      (pss_cons (ps_set (i := 2) nd rfl (.inr rfl) (pe_lcD (own := [("row", 3)]) (by rfl) nd (pi_tup (pv 1)) (blkOk_by (own := [("row", 3)]) (N := ["reach", "truths", "true", "row", "word", "world", "other"]) (sc := (defScope s_are_truths)) (by decide +kernel)) (fun _ _ _ _ _ => pg_name (i := 3) nd rfl (Or.inl rfl)) (fun _ _ _ _ _ => pts_nil) (fun _ _ _ _ _ => (pe_dcD (own := [("word", 4)]) (by rfl) nd (pi_tup (pv 3)) (blkOk_by (own := [("word", 4)]) (N := ["reach", "truths", "true", "row", "word", "world", "other"]) (sc := { kind := .function, names := [(".0", .local), ("row", .local)], isGenerator := false, isCoroutine := false, more := [] }) (by decide +kernel)) (fun _ _ _ _ _ => pg_name (i := 4) nd rfl (Or.inl rfl)) (fun _ _ _ _ _ => pts_nil) (fun _ _ _ _ _ => (pv 4)) (fun _ _ _ _ _ => pe_bl)))))
      (pss_one (ps_ret (pe_callB (cr_all rfl) (by rfl) T.b_all (by decide +kernel) (pa_cons (pe_lc3D (own := [("world", 5), ("row", 3), ("other", 6), ("word", 4)]) (v1 := [6, 4]) (v2 := [4]) (by rfl) nd (pi_enumT (by rfl) T.b_enumerate (pa_cons (pv 0) pa_nil)) (blkOk_by (own := [("world", 5), ("row", 3), ("other", 6), ("word", 4)]) (N := ["reach", "truths", "true", "row", "word", "world", "other"]) (sc := (defScope s_are_truths)) (by decide +kernel)) (by decide) (by decide) (fun _ _ _ _ _ => pg_tup (by rfl) (pgs_cons (pg_name (i := 5) nd rfl (Or.inl rfl)) (pgs_cons (pg_name (i := 3) nd rfl (Or.inl rfl)) pgs_nil))) (fun _ _ _ _ _ => (pi_tup (pv 3))) (fun _ _ _ _ _ => pg_name (i := 6) nd rfl (Or.inl rfl)) (fun _ _ _ _ _ => (pi_tup (pe_ix ix_tup (pv 1) (pv 5) (fun _ _ => rfl)))) (fun _ _ _ _ _ => pg_name (i := 4) nd rfl (Or.inl rfl)) (fun _ _ _ _ _ => (pe_cmp (pc_din (by first | exact Nat.lt_of_le_of_lt (Nat.add_le_add_left (by decide : 1 ≤ 64) _) hr.units | exact Nat.lt_of_le_of_lt (Nat.add_le_add_left (by decide : 4 ≤ 64) _) hr.units | exact Nat.lt_of_le_of_lt (Nat.add_le_add_left (by decide : 7 ≤ 64) _) hr.units) (pv 4) (pe_ix ix_list (pv 2) (pv 6) (fun _ _ => rfl))) (by rfl)))) pa_nil))))))), ?_⟩
    have lx : xs.length = rs.length := hx.1.trans (List.length_map _)
    have bad : ¬ TruO rs o → (false = true ↔ TruO rs o) := fun n => ⟨fun z => (by cases z), fun z => absurd z n⟩
    cases o with
    | none =>
      obtain ⟨t, ht, hk⟩ := hv
      exact ⟨v, rfl, v, .ty "tuple", t, .type "tuple", false, rfl, .ty _, ht H (Same.refl H), hk, false, rfl, iteT (iteT (q false H (bad fun ⟨_, z, _⟩ => by cases z) (Same.refl H)))⟩
    | some o =>
      obtain ⟨tp, zs, rfl, htp, hz, few⟩ := hv
      refine ⟨.ref tp, rfl, .ref tp, .ty "tuple", .type "tuple", .type "tuple", true, rfl, .ty _, .base (.tup htp), kit_ty (by decide +kernel), true, rfl, iteF ?_⟩
      refine ⟨.ref tp, rfl, .ref tp, zs.length, rfl, .inr ⟨zs, .of htp, rfl⟩, .ref p, rfl, .ref p, xs.length, rfl, .inr ⟨xs, .of hp, rfl⟩, rfl, _, rfl, ?_⟩
      by_cases el : zs.length = xs.length
      · rw [decide_eq_true (show V.int (zs.length : Nat) = V.int (xs.length : Nat) by rw [el])]
        refine iteF (nx_go ?_)
        have lz := hz.1
        refine ⟨.ref tp, rfl, tp, rfl, ⟨_, SqT.of htp⟩, fun D hD => lc_tup (xs := zs) (fun i H' => H' D = some (.lst (((o.take i).map wordsB).map V.bl)) ∧ Same H H') ⟨upd_same, (Same.refl H).mut hD⟩ (fun i H' _ hP => SqT.of (hP.2 _ _ htp)) (fun i x H1 hxi hP => ?_) (fun H1 hP => ?_)⟩
        · obtain ⟨hD1, s1⟩ := hP
          obtain ⟨r, hr, hv⟩ := hz.2 i x hxi
          have li := lt_of_get hr
          refine ⟨rfl, tyes ?_⟩
          refine ⟨x, rfl, x, r, rfl, hv.same s1, fun H2 s2 => ?_⟩
          refine ⟨_, s2 _ _ hD1, lt_line' ?_, ?_, (s1.trans s2).mut hD⟩
          · rw [List.length_map, List.length_map, List.length_take]
            omega
          · rw [upd_same, take_next hr, List.map_append, List.map_append]
            rfl
        · obtain ⟨hD1, s1⟩ := hP
          rw [lz, List.take_length] at hD1
          refine ⟨D, _, rfl, SqL.of hD1, (o.map wordsB).all id, rfl, ?_⟩
          cases hb : (o.map wordsB).all id with
          | false =>
            refine iteT (q false H1 (bad fun ⟨ts, e, h⟩ => ?_) s1)
            have z := words_all h.2.1
            rw [List.all_map, Option.some.inj e] at hb
            rw [show (id ∘ wordsB) = wordsB from rfl, z] at hb
            cases hb
          | true =>
            refine iteF (nx_go ?_)
            have hb2 : o.all wordsB = true := by
              rw [List.all_map] at hb
              exact hb
            obtain ⟨ts, e, asc⟩ := words_some hb2
            subst e
            have lt : (ts.map some).length = ts.length := List.length_map _
            have ltr : ts.length = rs.length := by omega
            have wdAt : ∀ {H2 : Hp}, Same H H2 → ∀ {i : Nat} {x : V}, zs[i]? = some x → ∃ r q, ts[i]? = some r ∧ x = .ref q ∧ H2 q = some (.tup (r.map V.str)) ∧ r.length ≤ 100 := fun {H2} s2 {i x} e => by
              obtain ⟨r, hr, hv⟩ := hz.2 i x e
              rw [List.getElem?_map] at hr
              cases er : ts[i]? with
              | none => rw [er] at hr; cases hr
              | some r2 =>
                rw [er] at hr
                obtain rfl := Option.some.inj hr
                obtain ⟨qd, rfl, hq, l100, _⟩ := hv
                exact ⟨r2, qd, rfl, rfl, s2 _ _ hq, l100⟩
            have htp1 := s1 _ _ htp
            refine ⟨.ref tp, rfl, tp, rfl, ⟨_, SqT.of htp1⟩, fun D2 hD2 => lc_tup (xs := zs) (fun i H' => (∃ ds : List Addr, H' D2 = some (.lst (ds.map V.ref)) ∧ ds.length = i ∧ ∀ (j : Nat) (d : Addr) (ws : List Str), ds[j]? = some d → ts[j]? = some ws → H' d = some (.dK (trueD ws))) ∧ Same H1 H') ⟨⟨[], upd_same, rfl, fun j d ws e => nomatch e⟩, (Same.refl H1).mut hD2⟩ (fun i H' _ hP => SqT.of (hP.2 _ _ htp1)) (fun i x H2 hxi hP => ?_) (fun H2 hP => asg_go2 ?_)⟩
            · obtain ⟨⟨ds, hD3, ld, at3⟩, s3⟩ := hP
              obtain ⟨ws, qd, hr, rfl, hq, l100⟩ := wdAt (s1.trans s3) hxi
              have li := lt_of_get hr
              refine ⟨rfl, tyes ?_⟩
              refine ⟨.ref qd, rfl, qd, rfl, ⟨_, SqT.of hq⟩, fun D4 hD4 => dc_tup (xs := ws.map V.str) (fun k H' => H' D4 = some (.dK (trueD (ws.take k))) ∧ Same H2 H') ⟨upd_same, (Same.refl H2).mut hD4⟩ (fun k H' _ hP => SqT.of (hP.2 _ _ hq)) (fun k y H5 hy hP => ?_) (fun H5 hP => ?_)⟩
              · obtain ⟨hD5, s5⟩ := hP
                obtain ⟨y, ey, rfl⟩ := str_at hy
                have lk := lt_of_get ey
                refine ⟨rfl, tyes ?_⟩
                refine ⟨.str y, rfl, _, Sum.inr y, rfl, hD5, lt_line' (by unfold trueD; rw [List.length_map, List.length_take]; omega), ?_, s5.mut hD4⟩
                rw [upd_same, take_next ey, putK_new]
                · unfold trueD
                  rw [List.map_append]
                  rfl
                · have pw := (asc ws (List.mem_of_getElem? hr)).1
                  rw [← List.take_append_drop k ws, List.drop_eq_getElem_cons lk, show ws[k] = y from Option.some.inj ((List.getElem?_eq_getElem lk).symm.trans ey)] at pw
                  have no : y ∉ ws.take k := fun m => ltS_ne ((List.pairwise_append.mp pw).2.2 y m y List.mem_cons_self) rfl
                  have z := trueD_has (ws.take k) y
                  rw [decide_eq_false no] at z
                  cases e : valV (trueD (ws.take k)) (Sum.inr y) with
                  | none => rfl
                  | some _ => rw [e] at z; cases z
              · obtain ⟨hD5, s5⟩ := hP
                rw [List.length_map, List.take_length] at hD5
                refine ⟨_, s5 _ _ hD3, lt_line' (by rw [List.length_map]; omega), ⟨ds ++ [D4], by rw [upd_same, List.map_append]; rfl, by rw [List.length_append, ld]; rfl, fun j d ws2 e1 e2 => ?_⟩, (s3.trans s5).mut hD2⟩
                have nD : ∀ {d : Addr} {kv}, H5 d = some (.dK kv) → d ≠ D2 := fun h e => by
                  rw [e, s5 _ _ hD3] at h
                  cases h
                rcases Nat.lt_or_ge j ds.length with lj | gj
                · rw [List.getElem?_append_left lj] at e1
                  have z := s5 _ _ (at3 j d ws2 e1 e2)
                  rw [upd_ne (nD z)]
                  exact z
                · have ej : j = ds.length := by
                    have := lt_of_get e1
                    rw [List.length_append, List.length_singleton] at this
                    omega
                  subst ej
                  rw [List.getElem?_concat_length] at e1
                  obtain rfl := Option.some.inj e1
                  rw [ld, hr] at e2
                  obtain rfl := Option.some.inj e2
                  rw [upd_ne (nD hD5)]
                  exact hD5
            · obtain ⟨⟨ds, hD3, ld, at3⟩, s3⟩ := hP
              dsimp only [List.set]
              have s4 := s1.trans s3
              have hp2 := s4 _ _ hp
              have htp2 := s4 _ _ htp
              have ll : 1 ≤ rs.length ∧ rs.length ≤ 60 := ord.1
              have low := ord.2.1
              refine ⟨.ref p, rfl, p, xs, rfl, SqT.of hp2, fun D5 hD5 => go_it (walk_enumT (xs := xs)) (fun i H' => (∃ bs : List Bool, H' D5 = some (.lst (bs.map V.bl)) ∧ bs.length ≤ i * 10000 ∧ (bs.all id = true ↔ ∀ (w : Nat) (row : List Nat), w < i → rs[w]? = some row → ∀ o ∈ row, ∀ tw to, ts[w]? = some tw → ts[o]? = some to → ∀ x ∈ tw, x ∈ to)) ∧ Same H2 H')
                ⟨⟨[], upd_same, Nat.zero_le _, ⟨fun _ w row h => (nomatch h), fun _ => rfl⟩⟩, (Same.refl H2).mut hD5⟩ (fun i H' _ hP => SqT.of (hP.2 _ _ hp2)) (fun i v H5 H6 lt hP y => ?_) (fun H5 hP => ?_)⟩
              · obtain ⟨T0, x1, z, rfl, hT, rfl, e1, f2⟩ := y
                obtain rfl := Option.some.inj e1
                obtain ⟨⟨bs, hD6, lb, eb⟩, s6⟩ := hP
                obtain ⟨r0, hr0, hv0⟩ := hx.2 i z f2
                obtain ⟨row, hrow, rfl⟩ : ∃ row, rs[i]? = some row ∧ r0 = some row := by
                  rw [List.getElem?_map] at hr0
                  cases er : rs[i]? with
                  | none => rw [er] at hr0; cases hr0
                  | some r2 => rw [er] at hr0; exact ⟨r2, rfl, (Option.some.inj hr0).symm⟩
                obtain ⟨qd, rfl, hq, l100, _⟩ := hv0
                have li : i < rs.length := lt_of_get hrow
                have htw := List.getElem?_eq_getElem (show i < ts.length by omega)
                generalize etw : ts[i]'(show i < ts.length by omega) = tw at htw
                have hzi := List.getElem?_eq_getElem (show i < zs.length by omega)
                obtain ⟨tw', qt, htw', eqt, hqt, t100⟩ := wdAt (Same.refl H) hzi
                rw [htw] at htw'
                obtain rfl := Option.some.inj htw'
                have sT := s6.new (o := .tup [V.int (i : Nat), .ref qd]) hT
                have hD7 := (upd_ne (o := .tup [V.int (i : Nat), .ref qd]) (ne_of_none hD6 hT)).trans hD6
                have hT7 : upd H5 T0 (.tup [V.int (i : Nat), .ref qd]) T0 = some (.tup [V.int (i : Nat), .ref qd]) := upd_same
                generalize upd H5 T0 (.tup [V.int (i : Nat), .ref qd]) = G at sT hD7 hT7 ⊢
                refine ⟨T0, _, rfl, .of hT7, rfl, _, _, rfl, asg_go2 ⟨_, _, rfl, asg_go2 ⟨rfl, ?_⟩⟩⟩
                refine ⟨rfl, ?_⟩
                have s7 := s4.trans sT
                have base : ∀ H', Same H2 H' → Same H H' := fun H' z => s4.trans z
                refine ⟨.ref qd, rfl, qd, rfl, ⟨_, SqT.of (s7 _ _ hq)⟩, go_it (L2.walk_tup (xs := VI row)) (fun j H' => (∃ bs : List Bool, H' D5 = some (.lst (bs.map V.bl)) ∧ bs.length ≤ i * 10000 + j * 100 ∧ (bs.all id = true ↔ ((∀ (w : Nat) (row : List Nat), w < i → rs[w]? = some row → ∀ o ∈ row, ∀ tw to, ts[w]? = some tw → ts[o]? = some to → ∀ x ∈ tw, x ∈ to) ∧ ∀ o ∈ row.take j, ∀ to, ts[o]? = some to → ∀ x ∈ tw, x ∈ to))) ∧ Same H2 H')
                  ⟨⟨bs, hD7, by omega, eb.trans ⟨fun h => ⟨h, fun o ho => (nomatch ho)⟩, fun h => h.1⟩⟩, sT⟩ (fun j H' _ hP => SqT.of (base _ hP.2 _ _ hq)) (fun j v H7 H8 ltj hP y => ?_) (fun H7 hP => ?_)⟩
                · obtain ⟨⟨bs, hD8, lb, eb⟩, s8⟩ := hP
                  obtain ⟨rfl, hv⟩ := y
                  obtain ⟨o, ho, rfl⟩ := vi_at hv
                  rw [vi_len] at ltj
                  have lo := (low row (List.mem_of_getElem? hrow)).2 o (List.mem_of_getElem? ho)
                  have hto := List.getElem?_eq_getElem (show o < ts.length by omega)
                  generalize eto : ts[o]'(show o < ts.length by omega) = to at hto
                  have hds := List.getElem?_eq_getElem (show o < ds.length by omega)
                  generalize ed : ds[o]'(show o < ds.length by omega) = d at hds
                  have hd := at3 o d to hds hto
                  refine ⟨rfl, ?_⟩
                  have s9 := s4.trans s8
                  refine ⟨.ref tp, rfl, .int (i : Nat), rfl, tp, zs, (i : Nat), _, rfl, rfl, SqT.of (s9 _ _ htp), atI_nat hzi, qt, eqt, ⟨_, SqT.of (s9 _ _ hqt)⟩, go_it (L2.walk_tup (xs := tw.map V.str)) (fun k H' => (∃ bs : List Bool, H' D5 = some (.lst (bs.map V.bl)) ∧ bs.length ≤ i * 10000 + j * 100 + k ∧ (bs.all id = true ↔ (((∀ (w : Nat) (row : List Nat), w < i → rs[w]? = some row → ∀ o ∈ row, ∀ tw to, ts[w]? = some tw → ts[o]? = some to → ∀ x ∈ tw, x ∈ to) ∧ ∀ o ∈ row.take j, ∀ to, ts[o]? = some to → ∀ x ∈ tw, x ∈ to) ∧ ∀ x ∈ tw.take k, x ∈ to))) ∧ Same H2 H')
                    ⟨⟨bs, hD8, by omega, eb.trans ⟨fun h => ⟨h, fun x hx => (nomatch hx)⟩, fun h => h.1⟩⟩, s8⟩ (fun k H' _ hP => SqT.of (base _ hP.2 _ _ hqt)) (fun k v H9 H10 ltk hP y => ?_) (fun H9 hP => ?_)⟩
                  · obtain ⟨⟨bs, hD10, lb, eb⟩, s10⟩ := hP
                    obtain ⟨rfl, hv⟩ := y
                    obtain ⟨x, hx1, rfl⟩ := str_at hv
                    rw [List.length_map] at ltk
                    refine ⟨rfl, ?_⟩
                    refine ⟨.str x, rfl, .ref D2, rfl, .int (o : Nat), rfl, D2, ds.map V.ref, (o : Nat), .ref d, rfl, rfl, SqL.of (s10 _ _ hD3), atI_nat (getE hds rfl), ?_⟩
                    refine ⟨d, _, rfl, DGet.k (k := Sum.inr x) (s10 _ _ hd), _, hD10, lt_line' (by rw [List.length_map]; omega), ?_⟩
                    rw [trueD_has]
                    refine ⟨⟨bs ++ [decide (x ∈ to)], by rw [upd_same, List.map_append]; rfl, by rw [List.length_append, List.length_singleton]; omega, ?_⟩, s10.mut hD5⟩
                    rw [List.all_append, Bool.and_eq_true_iff, eb]
                    show (_ ∧ (decide (x ∈ to) && true) = true) ↔ _
                    rw [Bool.and_true, decide_eq_true_iff, take_next hx1]
                    refine ⟨fun ⟨⟨h1, h2⟩, h3⟩ => ⟨h1, fun z hz => ?_⟩, fun ⟨h1, h2⟩ => ⟨⟨h1, fun z hz => h2 z (List.mem_append_left _ hz)⟩, h2 x (List.mem_append_right _ (List.mem_singleton.mpr rfl))⟩⟩
                    rcases List.mem_append.mp hz with m | m
                    · exact h2 z m
                    · rw [List.mem_singleton.mp m]
                      exact h3
                  · obtain ⟨⟨bs, hD10, lb, eb⟩, s10⟩ := hP
                    rw [List.length_map] at lb eb
                    refine ⟨⟨bs, hD10, by omega, eb.trans ⟨fun ⟨⟨h1, h2⟩, h3⟩ => ⟨h1, fun o2 ho2 to2 hto2 => ?_⟩, fun ⟨h1, h2⟩ => ⟨⟨h1, fun o2 ho2 => h2 o2 ?_⟩, fun x hx => h2 o ?_ to hto x ?_⟩⟩⟩, s10⟩
                    · rw [take_next ho] at ho2
                      rcases List.mem_append.mp ho2 with m | m
                      · exact h2 o2 m to2 hto2
                      · rw [List.mem_singleton.mp m, hto] at hto2
                        rw [← Option.some.inj hto2]
                        rw [List.take_length] at h3
                        exact h3
                    · rw [take_next ho]
                      exact List.mem_append_left _ ho2
                    · rw [take_next ho]
                      exact List.mem_append_right _ (List.mem_singleton.mpr rfl)
                    · exact List.mem_of_mem_take hx
                · obtain ⟨⟨bs, hD8, lb, eb⟩, s8⟩ := hP
                  rw [vi_len] at lb eb
                  rw [List.take_length] at eb
                  refine ⟨⟨bs, hD8, by omega, eb.trans ⟨fun ⟨h1, h2⟩ w row2 hw hr2 => ?_, fun h => ⟨fun w row2 hw => h w row2 (by omega), fun o ho to hto => h i row (by omega) hrow o ho tw to htw hto⟩⟩⟩, s8⟩
                  rcases Nat.lt_or_ge w i with lw | gw
                  · exact h1 w row2 lw hr2
                  · obtain rfl : w = i := by omega
                    rw [hrow] at hr2
                    obtain rfl := Option.some.inj hr2
                    intro o ho tw2 to htw2 hto
                    rw [htw] at htw2
                    obtain rfl := Option.some.inj htw2
                    exact h2 o ho to hto
              · obtain ⟨⟨bs, hD6, lb, eb⟩, s6⟩ := hP
                refine ⟨D5, _, rfl, SqL.of hD6, ?_⟩
                refine q _ H5 (eb.trans (Iff.trans ⟨fun h => ?_, fun h => ?_⟩ truO_some.symm)) (s4.trans s6)
                · exact ⟨ltr, asc, fun w row hw => h w row (by rw [lx]; exact lt_of_get hw) hw⟩
                · exact fun w row _ hw => h.2.2 w row hw
      · rw [decide_eq_false (show ¬ V.int (zs.length : Nat) = V.int (xs.length : Nat) from fun z => el (by have := V.int.inj z; omega))]
        refine iteT (q false H (bad fun ⟨ts, e, h⟩ => el ?_) (Same.refl H))
        rw [hz.1, Option.some.inj e, List.length_map, h.1, lx]
end


end My
namespace My
open PySem PySem.Spec PyProof.Rows L2 TL
set_option pp.maxSteps 3000
set_option pp.deepTerms false
/-! ### own errors -/
structure ErrT (K : PySem.W.Frag) (mg : Str → Option Value) (x : Str) (C : Addr) : Prop where
  exc : PySem.W.excIn K C [.type "ValueError", .type "Exception", .type "BaseException", .type "object"] "ValueError.__new__" = true
  g : mg x = some (.ref C)
  k : PySem.W.keepIn K (.ref C) = true
  b : PySem.W.subIn K (.ref C) (.type "BaseException") = some true
  t : PySem.W.typeIn K (.ref C) = some (.type "type")

/-! ### >> that may be too large -/
structure MakX (P : Program) (w : World) (K : PySem.W.Frag) (mg : Str → Option Value) (base : Heap) (C : Addr) (k : Nat) (ps : List Str) (sp : Sp) : Prop where
  ex : ∃ f fd, FnOk P w K mg base (L2.CX P w) k f fd ps sp ∧ Mk K C f ∧ Binds K fd ps []
section
variable {X : Cx} {x : Str} {k : Nat} {ps : List Str} {sp : Sp} {e : Expr} {es : List Expr} {t : TA} {p pos : Pos} {C : Addr} {E : XK}
/-- what leaves the making leaves the def -/
theorem pe_makeX (c : MakX X.prog X.w X.K X.mg X.base C k ps sp) (room : Room (k + 1) X.A) (hg : Gl X x) (hm : X.mg x = some (.ref C)) (pass : Passes (L2.CX X.prog X.w) X E) (ha : PA X (e :: es) t) (hdb : (x == ("__debug__" : Str)) = false := by decide)
    (he : starEach (e :: es) X.env = (false, eval e X.env) :: starEach es X.env := by rfl) (hpl : (backTo pos (starEach es X.env)).any (·.1) = false := by rfl) :
    PE X (.Call (.Name x p) (e :: es) [] pos) (tMake C sp [] E t) := by
  obtain ⟨f, fd, ok, M, hb⟩ := c.ex
  exact pe_make M ok room hg hm hb .nil pass ha hdb he hpl
end

/-! ### a room is made, or refused -/
def RoomO (o : Option (List (Option (List Nat)))) (t : Option (List (Option (List Str)))) : Prop := ∃ rs ts, o = some (rs.map some) ∧ t = some (ts.map some) ∧ OrdP rs ∧ TruP rs ts
def sp_Room_initX (K : PySem.W.Frag) (C CE : Addr) : Sp := fun vs H Q E => ∃ x dx v1 v2 o t, vs = [.ref x, v1, v2] ∧ H x = some (.ins C dx []) ∧ OrdV K H v1 o ∧ TruV K H v2 t ∧ (¬ RoomO o t → ∀ H', Same H H' → E (.ref CE) none H') ∧
  (∀ rs ts, o = some (rs.map some) → t = some (ts.map some) → OrdP rs → TruP rs ts → ∀ p1 p2 xs1 xs2, v1 = .ref p1 → v2 = .ref p2 → H p1 = some (.tup xs1) → H p2 = some (.tup xs2) → ∀ (rw ab : Addr) (ps : List Addr) H', (∀ b u, b ≠ x → H b = some u → H' b = some u) →
    H' x = some (.ins C dx [("_reach", .ref p1), ("_truths", .ref p2), ("_rows", .ref rw), ("_above", .ref ab)]) → H' rw = some (.tup (ps.map V.ref)) → ps.length = xs1.length → (∀ (i : Nat) (p : Addr) (a b : V), ps[i]? = some p → xs1[i]? = some a → xs2[i]? = some b → H' p = some (.tup [a, b])) → Q .non H')
theorem putF_new (f : Str) (v : V) : ∀ fs : List (Str × V), (∀ g ∈ fs.map (·.1), g ≠ f) → putF f v fs = fs ++ [(f, v)]
  | [], _ => rfl
  | (g, x) :: r, h => by
    unfold putF
    rw [if_neg (h g (List.mem_cons_self ..)), putF_new f v r fun k hk => h k (List.mem_cons_of_mem _ hk)]
    rfl
theorem calm_make {P : Program} {w : World} {K : PySem.W.Frag} {mg : Str → Option Value} {base : Heap} {C : Addr} {k : Nat} {ps : List Str} {sp : Sp} (c : MakX P w K mg base C k ps sp) : MakC P w K mg base C k ps (fun vs H Q _ => sp vs H Q E0) := by
  obtain ⟨f, fd, ok, M, B⟩ := c.ex
  refine ⟨f, fd, ⟨fun vs H Q E q => ok.len vs H Q E0 q, fun A outer s H args us vs Q E hr he hb hv hs => codeAny_mono (ok.run A outer s H args us vs Q E0 hr he hb hv hs) fun r s' h => ?_⟩, M, B⟩
  cases r with
  | ok fl => cases fl <;> exact h
  | error e =>
    obtain ⟨_, _, _, _, _, _, _, _, _, _, _, _, hE⟩ := h
    exact hE.elim
section
variable {P : Program} {w : World} {K : PySem.W.Frag} {mg : Str → Option Value} {base : Heap} {C_Room C_InvalidRoom : Addr}
theorem ok_Room_initX (T : Txt K mg C_Room) (e_InvalidRoom : ErrT K mg "InvalidRoom" C_InvalidRoom) (c_is_order : CalN P w K mg base "is_order" 3 ["reach", "limit"] (sp_is_order K)) (c_are_truths : CalN P w K mg base "are_truths" 3 ["reach", "truths"] (sp_are_truths K)) (c_bits_of : CalN P w K mg base "bits_of" 1 ["row"] (sp_bits_of K)) {f : Addr} {fd : FuncData} (F : Fun K "__init__" "Room.__init__" s_Room___init__ f fd) : FnOk P w K mg base (L2.CX P w) 4 f fd ["self", "reach", "truths"] (sp_Room_initX K C_Room C_InvalidRoom) := by
  have nd := sc_Room___init__.nd
  refine F.okX sc_Room___init__ (fun vs H Q E h => ?_) (fun cdv A outer s H vs Q E hr h => ?_)
  · obtain ⟨x, dx, v1, v2, o, t, rfl, _⟩ := h
    rfl
  · obtain ⟨x, dx, v1, v2, o, t, rfl, hx, ho, ht, qE, q⟩ := h
    refine ⟨_, (pss_cons (ps_if (PW.pt (pw_or (pt_not (pt_val (pe_callN c_is_order (hr.mono (by first | decide | omega)) rfl (pa_cons (pv 1) (pa_cons (pe_globE rfl T.g_MAX_WORLDS) pa_nil))))) (pw_or1 (pt_not (pt_val (pe_callN c_are_truths (hr.mono (by first | decide | omega)) rfl (pa_cons (pv 1) (pa_cons (pv 2) pa_nil)))))))) (pss_one (ps_raise rfl (takes_of rfl rfl rfl rfl) (pmk_own PySem.F.excBase_ValueError e_InvalidRoom.exc e_InvalidRoom.g e_InvalidRoom.k (raises_own e_InvalidRoom.b e_InvalidRoom.t) rfl))) pss_nil)
      (pss_cons (ps_fld (pv 0) (pv 1) rfl)
      (pss_cons (ps_fld (pv 0) (pv 2) rfl)
      (pss_cons (ps_fld (pv 0) (pe_tupzip rfl (by rfl) T.b_tuple (by rfl) T.b_zip (pa_cons (pv 1) (pa_cons (pv 2) pa_nil))) rfl)
      (pss_one (ps_fld (pv 0) (pe_callTy call_tuple_of (by rfl) T.b_tuple (by decide +kernel) (pa_cons (pe_lcD (own := [("row", 3)]) (by rfl) nd (pi_tup (pv 1)) (blkOk_by (own := [("row", 3)]) (N := ["self", "reach", "truths", "row"]) (sc := (defScope s_Room___init__)) (by decide +kernel)) (fun _ _ _ _ _ => pg_name (i := 3) nd rfl (Or.inl rfl)) (fun _ _ _ _ _ => pts_nil) (fun _ _ _ _ _ => (pe_callN c_bits_of (hr.mono (by first | decide | omega)) rfl (pa_cons (pv 3) pa_nil)))) pa_nil)) rfl)))))), ?_⟩
    refine ⟨v1, rfl, v1, o, rfl, ho, fun b H1 hb s1 => ⟨b, rfl, ?_⟩⟩
    cases b with
    | false => exact iteT (iteT (qE (fun ⟨rs, ts, e1, e2, h1, h2⟩ => by cases hb.mpr ⟨rs, e1, h1⟩) H1 s1))
    | true =>
      refine iteF ?_
      obtain ⟨rs, rfl, ord⟩ := hb.mp rfl
      obtain ⟨p1, xs1, rfl, hp1, hx1, _⟩ := ho
      have ht1 : TruV K H1 v2 t := by
        cases t with
        | none => exact ht.elim fun u hu => ⟨u, fun H' z => hu.1 H' (s1.trans z), hu.2⟩
        | some t2 =>
          obtain ⟨p2, xs2, e, hp2, hx2, l⟩ := ht
          exact ⟨p2, xs2, e, s1 _ _ hp2, hx2.same s1, l⟩
      refine ⟨.ref p1, rfl, v2, rfl, p1, xs1, rs, v2, t, rfl, s1 _ _ hp1, hx1.same s1, ord, ht1, fun b H2 hb s2 => ⟨b, rfl, ?_⟩⟩
      have s3 := s1.trans s2
      cases b with
      | false => exact iteT (qE (fun ⟨rs2, ts, e1, e2, h1, h2⟩ => by
          have e : rs = rs2 := (List.map_inj_right (fun _ _ z => Option.some.inj z)).mp (Option.some.inj e1)
          cases hb.mpr ⟨ts, e2, e ▸ h2⟩) H2 s3)
      | true =>
        refine iteF (nx_go ?_)
        dsimp only
        obtain ⟨ts, rfl, tru⟩ := hb.mp rfl
        obtain ⟨p2, xs2, rfl, hp2, hx2, _⟩ := ht
        have q := q rs ts rfl rfl ord tru p1 p2 xs1 xs2 rfl rfl hp1 hp2
        have hxH := s3 _ _ hx
        have l1 : xs1.length = rs.length := hx1.1.trans (List.length_map _)
        have l2 : xs2.length = rs.length := (hx2.1.trans (List.length_map _)).trans tru.1
        have few := ord.1
        refine ⟨.ref p1, rfl, .ref x, rfl, x, C_Room, dx, _, rfl, hxH, T.k_Room, T.x_Room.n_reach, by decide, ?_⟩
        rw [show putF "_reach" (V.ref p1) [] = [(("_reach" : Str), V.ref p1)] from rfl]
        have o3 : ∀ b u, b ≠ x → H b = some u → upd H2 x (.ins C_Room dx [("_reach", .ref p1)]) b = some u := fun b u n h => (upd_ne n).trans (s3 b u h)
        have hx3 : upd H2 x (.ins C_Room dx [("_reach", .ref p1)]) x = some (.ins C_Room dx [("_reach", .ref p1)]) := upd_same
        generalize upd H2 x (.ins C_Room dx [("_reach", .ref p1)]) = G3 at o3 hx3 ⊢
        refine ⟨.ref p2, rfl, .ref x, rfl, x, C_Room, dx, _, rfl, hx3, T.k_Room, T.x_Room.n_truths, by show 1 < 1000; decide, ?_⟩
        rw [putF_new "_truths" (V.ref p2) [(("_reach" : Str), V.ref p1)] (show ∀ g ∈ (["_reach"] : List Str), g ≠ "_truths" by decide +kernel), List.cons_append, List.nil_append]
        have o4 : ∀ b u, b ≠ x → H b = some u → upd G3 x (.ins C_Room dx [("_reach", .ref p1), ("_truths", .ref p2)]) b = some u := fun b u n h => (upd_ne n).trans (o3 b u n h)
        have hx4 : upd G3 x (.ins C_Room dx [("_reach", .ref p1), ("_truths", .ref p2)]) x = some (.ins C_Room dx [("_reach", .ref p1), ("_truths", .ref p2)]) := upd_same
        generalize upd G3 x (.ins C_Room dx [("_reach", .ref p1), ("_truths", .ref p2)]) = G4 at o4 hx4 ⊢
        have n1 : p1 ≠ x := ne_of hp1 hx (fun z => nomatch z)
        have n2 : p2 ≠ x := ne_of hp2 hx (fun z => nomatch z)
        refine ⟨.ref p1, rfl, .ref p2, rfl, p1, p2, xs1, xs2, rfl, SqT.of (o4 _ _ n1 hp1), SqT.of (o4 _ _ n2 hp2), by rw [l1, l2], by omega, fun rw ps H5 s5 hrw lps at5 => ?_⟩
        have hx5 := s5 _ _ hx4
        refine ⟨.ref x, rfl, x, C_Room, dx, _, rfl, hx5, T.k_Room, T.x_Room.n_rows, by show 2 < 1000; decide, ?_⟩
        rw [putF_new "_rows" (V.ref rw) [(("_reach" : Str), V.ref p1), ("_truths", V.ref p2)] (show ∀ g ∈ (["_reach", "_truths"] : List Str), g ≠ "_rows" by decide +kernel), List.cons_append, List.cons_append, List.nil_append]
        have nt : ∀ {b ys}, H5 b = some (.tup ys) → b ≠ x := fun h => ne_of h hx5 (fun z => nomatch z)
        have t6 : ∀ b ys, H5 b = some (.tup ys) → upd H5 x (.ins C_Room dx [("_reach", .ref p1), ("_truths", .ref p2), ("_rows", .ref rw)]) b = some (.tup ys) := fun b ys h => (upd_ne (nt h)).trans h
        have o6 : ∀ b u, b ≠ x → H b = some u → upd H5 x (.ins C_Room dx [("_reach", .ref p1), ("_truths", .ref p2), ("_rows", .ref rw)]) b = some u := fun b u n h => (upd_ne n).trans (s5 _ _ (o4 b u n h))
        have hx6 : upd H5 x (.ins C_Room dx [("_reach", .ref p1), ("_truths", .ref p2), ("_rows", .ref rw)]) x = some (.ins C_Room dx [("_reach", .ref p1), ("_truths", .ref p2), ("_rows", .ref rw)]) := upd_same
        have hrw6 := t6 _ _ hrw
        have at6 := fun i p a b e1 e2 e3 => t6 p _ (at5 i p a b e1 e2 e3)
        generalize upd H5 x (.ins C_Room dx [("_reach", .ref p1), ("_truths", .ref p2), ("_rows", .ref rw)]) = G6 at o6 hx6 hrw6 at6 ⊢
        have hp6 := o6 _ _ n1 hp1
        refine ⟨.ref p1, rfl, p1, rfl, ⟨_, SqT.of hp6⟩, fun D hD => lc_tup (xs := xs1) (fun i H' => (∃ ns : List V, H' D = some (.lst ns) ∧ ns.length ≤ i) ∧ Same G6 H') ⟨⟨[], upd_same, Nat.le_refl _⟩, (Same.refl G6).mut hD⟩ (fun i H' _ hP => SqT.of (hP.2 _ _ hp6)) (fun i y H7 hy hP => ?_) (fun H7 hP => ?_)⟩
        · obtain ⟨⟨ns, hD7, ln⟩, s7⟩ := hP
          obtain ⟨r, hr, hv⟩ := hx1.2 i y hy
          rw [List.getElem?_map] at hr
          obtain ⟨row, er, rfl⟩ := Option.map_eq_some_iff.mp hr
          obtain ⟨qd, rfl, hq, l100, _⟩ := hv
          have li := lt_of_get er
          have hq7 := s7 _ _ (o6 _ _ (ne_of hq hx (fun z => nomatch z)) hq)
          refine ⟨rfl, tyes ?_⟩
          refine ⟨.ref qd, rfl, qd, row, rfl, hq7, l100, fun n hn => by have := (ord.2.1 row (List.mem_of_getElem? er)).2 n hn; omega, fun H8 s8 => ?_⟩
          exact ⟨_, s8 _ _ hD7, lt_line' (by omega), ⟨_, upd_same, by rw [List.length_append, List.length_singleton]; omega⟩, (s7.trans s8).mut hD⟩
        · obtain ⟨⟨ns, hD7, ln⟩, s7⟩ := hP
          refine ⟨D, _, rfl, .inl ⟨SqL.of hD7, fun l hl => ?_⟩⟩
          have s8 := s7.new (o := .tup ns) hl
          refine ⟨.ref x, rfl, x, C_Room, dx, _, rfl, s8 _ _ hx6, T.k_Room, T.x_Room.n_above, by show 3 < 1000; decide, ?_⟩
          rw [putF_new "_above" (V.ref l) [(("_reach" : Str), V.ref p1), ("_truths", V.ref p2), ("_rows", V.ref rw)] (show ∀ g ∈ (["_reach", "_truths", "_rows"] : List Str), g ≠ "_above" by decide +kernel), List.cons_append, List.cons_append, List.cons_append, List.nil_append]
          have nx8 : ∀ {b ys}, upd H7 l (.tup ns) b = some (.tup ys) → b ≠ x := fun h => ne_of h (s8 _ _ hx6) (fun z => nomatch z)
          exact q rw l ps _ (fun b u n h => (upd_ne n).trans (s8 _ _ (o6 b u n h))) upd_same ((upd_ne (nx8 (s8 _ _ hrw6))).trans (s8 _ _ hrw6)) lps fun i p a b e1 e2 e3 => (upd_ne (nx8 (s8 _ _ (at6 i p a b e1 e2 e3)))).trans (s8 _ _ (at6 i p a b e1 e2 e3))
end
/-! ### rooms as values -/
structure IsRm (K : PySem.W.Frag) (C : Addr) (H : Hp) (v : V) (rs : List (List Nat)) (ts : List (List Str)) : Prop where
  ex : ∃ (x dx p1 p2 rw ab : Addr) (xs1 xs2 : List V) (ps : List Addr), v = .ref x ∧ H x = some (.ins C dx [("_reach", .ref p1), ("_truths", .ref p2), ("_rows", .ref rw), ("_above", .ref ab)]) ∧ H p1 = some (.tup xs1) ∧ RowsV K H xs1 (rs.map some) ∧ H p2 = some (.tup xs2) ∧ RowsS K H xs2 (ts.map some) ∧
    H rw = some (.tup (ps.map V.ref)) ∧ ps.length = xs1.length ∧ ∀ (i : Nat) (p : Addr) (a b : V), ps[i]? = some p → xs1[i]? = some a → xs2[i]? = some b → H p = some (.tup [a, b])
  ord : OrdP rs
  tru : TruP rs ts
theorem IsRm.same {K : PySem.W.Frag} {C : Addr} {H H' : Hp} {v : V} {rs : List (List Nat)} {ts : List (List Str)} (s : Same H H') (h : IsRm K C H v rs ts) : IsRm K C H' v rs ts := by
  obtain ⟨⟨x, dx, p1, p2, rw, ab, xs1, xs2, ps, e, h1, h2, h3, h4, h5, h6, h7, h8⟩, o, t⟩ := h
  exact ⟨⟨x, dx, p1, p2, rw, ab, xs1, xs2, ps, e, s _ _ h1, s _ _ h2, h3.same s, s _ _ h4, h5.same s, s _ _ h6, h7, fun i p a b e1 e2 e3 => s _ _ (h8 i p a b e1 e2 e3)⟩, o, t⟩
def sp_Room___init__ (K : PySem.W.Frag) (C : Addr) : Sp := fun vs H Q _ => ∃ x dx p1 p2 rs ts xs1 xs2, vs = [.ref x, .ref p1, .ref p2] ∧ H x = some (.ins C dx []) ∧ H p1 = some (.tup xs1) ∧ RowsV K H xs1 (rs.map some) ∧ H p2 = some (.tup xs2) ∧ RowsS K H xs2 (ts.map some) ∧ OrdP rs ∧ TruP rs ts ∧
  ∀ H', (∀ b u, b ≠ x → H b = some u → H' b = some u) → IsRm K C H' (.ref x) rs ts → Q .non H'
theorem plain_make {P : Program} {w : World} {K : PySem.W.Frag} {mg : Str → Option Value} {base : Heap} {C CE : Addr} {k : Nat} {ps : List Str} (c : MakX P w K mg base C k ps (sp_Room_initX K C CE)) : MakC P w K mg base C k ps (sp_Room___init__ K C) := by
  obtain ⟨f, fd, ok, M, B⟩ := (calm_make c).ex
  refine ⟨f, fd, ok.imp fun vs H Q E h => ?_, M, B⟩
  obtain ⟨x, dx, p1, p2, rs, ts, xs1, xs2, rfl, hx, h1, v1, h2, v2, ord, tru, q⟩ := h
  have l1 : xs1.length = rs.length := v1.1.trans (List.length_map _)
  refine ⟨x, dx, .ref p1, .ref p2, some (rs.map some), some (ts.map some), rfl, hx, ⟨p1, xs1, rfl, h1, v1, by rw [List.length_map]; have := ord.1; omega⟩, ⟨p2, xs2, rfl, h2, v2, by rw [List.length_map, tru.1]; have := ord.1; omega⟩, fun n => absurd ⟨rs, ts, rfl, rfl, ord, tru⟩ n, ?_⟩
  intro rs2 ts2 e1 e2 _ _ q1 q2 ys1 ys2 f1 f2 g1 g2 rw ab ps2 H' keep hx' hrw lps at'
  cases f1
  cases f2
  rw [h1] at g1
  rw [h2] at g2
  cases g1
  cases g2
  have nt : ∀ {b ys}, H b = some (.tup ys) → b ≠ x := fun h => ne_of h hx (fun z => nomatch z)
  have rv : RowsV K H' xs1 (rs.map some) := ⟨v1.1, fun i y e => by
    obtain ⟨r, hr, hv⟩ := v1.2 i y e
    rw [List.getElem?_map] at hr
    obtain ⟨row, er, rfl⟩ := Option.map_eq_some_iff.mp hr
    obtain ⟨qd, rfl, hq, l⟩ := hv
    exact ⟨some row, by rw [List.getElem?_map, er]; rfl, qd, rfl, keep _ _ (nt hq) hq, l⟩⟩
  have rs' : RowsS K H' xs2 (ts.map some) := ⟨v2.1, fun i y e => by
    obtain ⟨r, hr, hv⟩ := v2.2 i y e
    rw [List.getElem?_map] at hr
    obtain ⟨row, er, rfl⟩ := Option.map_eq_some_iff.mp hr
    obtain ⟨qd, rfl, hq, l⟩ := hv
    exact ⟨some row, by rw [List.getElem?_map, er]; rfl, qd, rfl, keep _ _ (nt hq) hq, l⟩⟩
  exact q H' keep ⟨⟨x, dx, p1, p2, rw, ab, xs1, xs2, ps2, rfl, hx', keep _ _ (nt h1) h1, rv, keep _ _ (nt h2) h2, rs', hrw, lps, at'⟩, ord, tru⟩


end My
namespace My
open PySem PySem.Spec PyProof.Rows L2 TL
set_option pp.maxSteps 3000
set_option pp.deepTerms false
/-! ### rooms: what they tell -/
def sp_Room___len__ (K : PySem.W.Frag) (C : Addr) : Sp := fun vs H Q _ => ∃ v rs ts, vs = [v] ∧ IsRm K C H v rs ts ∧ Q (.int (rs.length : Nat)) H
def atomsOf (ts : List (List Str)) : List Str := ts.flatten
/-- the atoms of a room, in order -/
def AtomsP (ts : List (List Str)) (ys : List Str) : Prop := sortedS ys = true ∧ ys.Nodup ∧ ∀ x, x ∈ ys ↔ x ∈ ts.flatten
def sp_Room_atoms (K : PySem.W.Frag) (C : Addr) : Sp := fun vs H Q _ => ∃ v rs ts, vs = [v] ∧ IsRm K C H v rs ts ∧ ts.flatten.length < 64 ∧ ∀ l ys H', AtomsP ts ys → Same H H' → H' l = some (.tup (ys.map V.str)) → Q (.ref l) H'
def sp_Room___getitem__ (K : PySem.W.Frag) (C : Addr) : Sp := fun vs H Q _ => ∃ x dx p1 p2 rw ab xs2, ∃ (ps : List Addr) (i : Nat) (p : Addr), vs = [.ref x, .int (i : Nat)] ∧ H x = some (.ins C dx [("_reach", .ref p1), ("_truths", .ref p2), ("_rows", .ref rw), ("_above", .ref ab)]) ∧ xs2 = ps.map V.ref ∧ H rw = some (.tup xs2) ∧ i ≤ 1000 ∧ ps[i]? = some p ∧ ∀ H', Same H H' → Q (.ref p) H'
def sp_Room___str__ (K : PySem.W.Frag) (C : Addr) : Sp := fun vs H Q _ => ∃ v rs ts, vs = [v] ∧ IsRm K C H v rs ts ∧ ts.flatten.length < 64 ∧ ∀ (ys : List Str) H', AtomsP ts ys → Same H H' → Q (.str (Str.empty ++ (toString ((rs.length : Nat) : Int) : Str) ++ (" worlds, " : Str) ++ (toString ((ys.length : Nat) : Int) : Str) ++ (" atoms" : Str))) H'
theorem int_small : ∀ n : Nat, n < 64 → (toString ((n : Nat) : Int) : Str).length ≤ 3 := fun n h => (show ∀ n : Fin 64, (toString ((n.val : Nat) : Int) : Str).length ≤ 3 by decide +kernel) ⟨n, h⟩
theorem len_app (a b : Str) : (a ++ b).length = a.length + b.length := by rw [len_tl, tl_append, List.length_append, ← len_tl, ← len_tl]
theorem len_empty : Str.empty.length = 0 := by decide +kernel
section
variable {P : Program} {w : World} {K : PySem.W.Frag} {mg : Str → Option Value} {base : Heap} {C_Room : Addr}
theorem ok_Room___len__ (T : Txt K mg C_Room) {f : Addr} {fd : FuncData} (F : Fun K "__len__" "Room.__len__" s_Room___len__ f fd) : FnOk P w K mg base CX0 1 f fd ["self"] (sp_Room___len__ K C_Room) := by
  have nd := sc_Room___len__.nd
  refine F.ok sc_Room___len__ (fun vs H Q E h => ?_) (fun cdv A outer s H vs Q E hr h => ?_)
  · obtain ⟨v, rs, ts, rfl, _⟩ := h
    rfl
  · obtain ⟨v, rs, ts, rfl, rm, q⟩ := h
    refine ⟨_, (pss_one (ps_ret (pe_callB call_len (by rfl) T.b_len (by decide +kernel) (pa_cons (pe_fld (pv 0) rfl) pa_nil)))), ?_⟩
    obtain ⟨⟨x, dx, p1, p2, rw, ab, xs1, xs2, ps, rfl, hx, h1, v1, h2, v2, h3, lps, at'⟩, ord, tru⟩ := rm
    have l1 : xs1.length = rs.length := v1.1.trans (List.length_map _)
    refine ⟨.ref x, rfl, x, C_Room, dx, _, .ref rw, rfl, hx, T.k_Room, T.x_Room.n_rows, rfl, .ref rw, _, rfl, .inr ⟨_, .of h3, rfl⟩, ?_⟩
    rw [List.length_map, lps, l1]
    exact q
theorem ok_Room_atoms (T : Txt K mg C_Room) {f : Addr} {fd : FuncData} (F : Fun K "atoms" "Room.atoms" s_Room_atoms f fd) : FnOk P w K mg base CX0 1 f fd ["self"] (sp_Room_atoms K C_Room) := by
  have nd := sc_Room_atoms.nd
  refine F.ok sc_Room_atoms (fun vs H Q E h => ?_) (fun cdv A outer s H vs Q E hr h => ?_)
  · obtain ⟨v, rs, ts, rfl, _⟩ := h
    rfl
  · obtain ⟨v, rs, ts, rfl, rm, l64, q⟩ := h
    refine ⟨_, (pss_one (ps_ret (pe_callTy call_tuple_of (by rfl) T.b_tuple (by decide +kernel) (pa_cons (pe_callB (cr_sortS rfl) (by rfl) T.b_sorted (by decide +kernel) (pa_cons (pe_callTy (cr_setE rfl) (by rfl) T.b_set (by decide +kernel) (pa_cons (pe_lc2D (own := [("row", 1), ("word", 2)]) (vs1 := [2]) (by rfl) nd (pi_tup (pe_fld (pv 0) rfl)) (blkOk_by (own := [("row", 1), ("word", 2)]) (N := ["self", "row", "word"]) (sc := (defScope s_Room_atoms)) (by decide +kernel)) (by decide) (fun _ _ _ _ _ => pg_name (i := 1) nd rfl (Or.inl rfl)) (fun _ _ _ _ _ => pts_nil) (fun _ _ _ _ _ => (pi_tup (pv 1))) (fun _ _ _ _ _ => pg_name (i := 2) nd rfl (Or.inl rfl)) (fun _ _ _ _ _ => pts_nil) (fun _ _ _ _ _ => (pv 2))) pa_nil)) pa_nil)) pa_nil)))), ?_⟩
    obtain ⟨⟨x, dx, p1, p2, rw, ab, xs1, xs2, ps, rfl, hx, h1, v1, h2, v2, h3, lps, at'⟩, ord, tru⟩ := rm
    have l2 : xs2.length = ts.length := v2.1.trans (List.length_map _)
    refine ⟨.ref x, rfl, x, C_Room, dx, _, .ref p2, rfl, hx, T.k_Room, T.x_Room.n_truths, rfl, p2, rfl, ⟨_, SqT.of h2⟩, fun D hD => walk_tup (xs := xs2) (fun i H' => H' D = some (.lst ((ts.take i).flatten.map V.str)) ∧ Same H H') ⟨upd_same, (Same.refl H).mut hD⟩ (fun i H' _ hP => SqT.of (hP.2 _ _ h2)) (fun i x2 H1 hxi hP => ?_) (fun H1 hP => ?_)⟩
    · obtain ⟨hD1, s1⟩ := hP
      obtain ⟨r, hr, hv⟩ := v2.2 i x2 hxi
      rw [List.getElem?_map] at hr
      obtain ⟨tw, et, rfl⟩ := Option.map_eq_some_iff.mp hr
      obtain ⟨qd, rfl, hq, l100, _⟩ := hv
      have li := lt_of_get et
      have sub : (ts.take (i + 1)).flatten = (ts.take i).flatten ++ tw := by rw [take_next et, List.flatten_append]; simp
      have lf : (ts.take (i + 1)).flatten.length ≤ ts.flatten.length := by
        have := congrArg (fun l : List (List Str) => l.flatten.length) (List.take_append_drop (i + 1) ts)
        rw [List.flatten_append, List.length_append] at this
        omega
      rw [sub, List.length_append] at lf
      refine ⟨rfl, tyes ?_⟩
      refine ⟨.ref qd, rfl, qd, rfl, ⟨_, SqT.of (s1 _ _ hq)⟩, walk_tup (xs := tw.map V.str) (fun k H' => H' D = some (.lst (((ts.take i).flatten ++ tw.take k).map V.str)) ∧ Same H H') ⟨by rw [List.take_zero, List.append_nil]; exact hD1, s1⟩ (fun k H' _ hP => SqT.of (hP.2 _ _ hq)) (fun k y H2 hy hP => ?_) (fun H2 hP => ?_)⟩
      · obtain ⟨hD2, s2⟩ := hP
        obtain ⟨z, ez, rfl⟩ := str_at hy
        have lk := lt_of_get ez
        refine ⟨rfl, tyes ?_⟩
        refine ⟨.str z, rfl, _, hD2, lt_line' ?_, ?_, s2.mut hD⟩
        · rw [List.length_map, List.length_append, List.length_take]
          omega
        · rw [upd_same, take_next ez]
          simp only [List.map_append, List.append_assoc, List.map_cons, List.map_nil]
      · obtain ⟨hD2, s2⟩ := hP
        rw [List.length_map, List.take_length] at hD2
        exact ⟨by rw [sub]; exact hD2, s2⟩
    · obtain ⟨hD1, s1⟩ := hP
      rw [l2, List.take_length] at hD1
      refine ⟨D, ts.flatten, rfl, .inr (SqL.of hD1), l64, fun a L ha lL mem => ?_⟩
      refine ⟨a, L, rfl, upd_same, by omega, fun ys r pm nd so hr => ?_⟩
      refine ⟨r, _, rfl, .inl ⟨SqL.of upd_same, fun l hl => ?_⟩⟩
      exact q l ys _ ⟨so, nd, fun x => (pm.mem_iff).trans (mem x)⟩ (((s1.new ha).new hr).new hl) upd_same
theorem ok_Room___getitem__ (T : Txt K mg C_Room) (c_is_integer : CalN P w K mg base "is_integer" 1 ["value"] (sp_is_integer K)) {f : Addr} {fd : FuncData} (F : Fun K "__getitem__" "Room.__getitem__" s_Room___getitem__ f fd) : FnOk P w K mg base CX0 2 f fd ["self", "at"] (sp_Room___getitem__ K C_Room) := by
  have nd := sc_Room___getitem__.nd
  refine F.ok sc_Room___getitem__ (fun vs H Q E h => ?_) (fun cdv A outer s H vs Q E hr h => ?_)
  · obtain ⟨x, dx, p1, p2, rw, ab, xs2, ps, i, p, rfl, _⟩ := h
    rfl
  · obtain ⟨x, dx, p1, p2, rw, ab, xs2, ps, i, p, rfl, hx, rfl, h3, i1, hp, q⟩ := h
    refine ⟨_, (pss_cons (ps_if (PW.pt (pw_or (pt_not (pt_val (pe_callN c_is_integer (hr.mono (by first | decide | omega)) rfl (pa_cons (pv 1) pa_nil)))) (pw_or1 (pt_not (pt_chain op_le op_lt pe_int (pv 1) (pe_callB call_len (by rfl) T.b_len (by decide +kernel) (pa_cons (pe_fld (pv 0) rfl) pa_nil))))))) (pss_one ps_never) pss_nil)
      (pss_one (ps_ret (pe_ix ix_tup (pe_fld (pv 0) rfl) (pv 1) (fun _ _ => rfl))))), ?_⟩
    have li := lt_of_get hp
    refine ⟨.int (i : Nat), rfl, .int (i : Nat), rfl, .inl ⟨_, rfl⟩, fun H1 s1 => ⟨isI (.int (i : Nat)), rfl, ?_⟩⟩
    rw [isI_small i1]
    refine iteF ?_
    refine ⟨.int (i : Nat), rfl, 0, (i : Nat), rfl, rfl, decide ((0 : Int) ≤ ((i : Nat) : Int)), rfl, ?_⟩
    rw [decide_eq_true (show (0 : Int) ≤ ((i : Nat) : Int) by omega)]
    refine iteT ?_
    refine ⟨.ref x, rfl, x, C_Room, dx, _, .ref rw, rfl, s1 _ _ hx, T.k_Room, T.x_Room.n_rows, rfl, .ref rw, _, rfl, .inr ⟨_, .of (s1 _ _ h3), rfl⟩, (i : Nat), _, rfl, rfl, _, rfl, ?_⟩
    rw [List.length_map, decide_eq_true (show ((i : Nat) : Int) < ((ps.length : Nat) : Int) by omega)]
    refine iteF (nx_go ?_)
    exact ⟨.ref x, rfl, x, C_Room, dx, _, .ref rw, rfl, s1 _ _ hx, T.k_Room, T.x_Room.n_rows, rfl, .int (i : Nat), rfl, rw, _, (i : Nat), .ref p, rfl, rfl, SqT.of (s1 _ _ h3), atI_nat (getE hp rfl), q H1 s1⟩
theorem ok_Room___str__ (T : Txt K mg C_Room) (p_Room_atoms : PrpC P w K mg base C_Room "atoms" 1 ["self"] (sp_Room_atoms K C_Room)) {f : Addr} {fd : FuncData} (F : Fun K "__str__" "Room.__str__" s_Room___str__ f fd) : FnOk P w K mg base CX0 3 f fd ["self"] (sp_Room___str__ K C_Room) := by
  have nd := sc_Room___str__.nd
  refine F.ok sc_Room___str__ (fun vs H Q E h => ?_) (fun cdv A outer s H vs Q E hr h => ?_)
  · obtain ⟨v, rs, ts, rfl, _⟩ := h
    rfl
  · obtain ⟨v, rs, ts, rfl, rm, l64, q⟩ := h
    refine ⟨_, (pss_one (ps_ret (pe_joined (PJ.cons (pe_fmt (pe_callB call_len (by rfl) T.b_len (by decide +kernel) (pa_cons (pe_fld (pv 0) rfl) pa_nil))) (PJ.cons pe_str (PJ.cons (pe_fmt (pe_callB call_len (by rfl) T.b_len (by decide +kernel) (pa_cons (pe_propC p_Room_atoms T.k_Room (hr.mono (by first | decide | omega)) (pv 0)) pa_nil))) (PJ.cons pe_str PJ.nil))))))), ?_⟩
    obtain ⟨⟨x, dx, p1, p2, rw, ab, xs1, xs2, ps, rfl, hx, h1, v1, h2, v2, h3, lps, at'⟩, ord, tru⟩ := id rm
    have l1 : xs1.length = rs.length := v1.1.trans (List.length_map _)
    refine ⟨.ref x, rfl, x, C_Room, dx, _, .ref rw, rfl, hx, T.k_Room, T.x_Room.n_rows, rfl, .ref rw, _, rfl, .inr ⟨_, .of h3, rfl⟩, ?_⟩
    rw [List.length_map, lps, l1]
    have few := ord.1
    have lg : ∀ n : Nat, n < 64 → ((n : Nat) : Int).natAbs.log2 < 1920 := fun n hn => Nat.lt_of_le_of_lt (Nat.log2_le_self _) (by omega)
    refine .inr ⟨_, rfl, lg _ (by omega), ?_⟩
    have t8 := int_small rs.length (by omega)
    have u1 := len_app Str.empty (toString ((rs.length : Nat) : Int) : Str)
    have u2 := len_app (Str.empty ++ (toString ((rs.length : Nat) : Int) : Str)) (" worlds, " : Str)
    rw [len_empty] at u1
    rw [show (" worlds, " : Str).length = 9 by decide +kernel] at u2
    refine ⟨_, rfl, lt_line (by omega), _, rfl, lt_line (by omega), ?_⟩
    refine ⟨.ref x, rfl, x, dx, _, rfl, hx, .ref x, rs, ts, rfl, rm, l64, fun l ys H1 ap s1 hl => ?_⟩
    have l56 : ys.length < 64 := by
      have := List.Nodup.length_le_of_subset ap.2.1 fun y hy => (ap.2.2 y).mp hy
      omega
    refine ⟨.ref l, _, rfl, .inr ⟨_, SqT.of hl, rfl⟩, ?_⟩
    rw [List.length_map]
    have t9 := int_small ys.length l56
    have u3 := len_app (Str.empty ++ (toString ((rs.length : Nat) : Int) : Str) ++ (" worlds, " : Str)) (toString ((ys.length : Nat) : Int) : Str)
    have u4 := len_app (Str.empty ++ (toString ((rs.length : Nat) : Int) : Str) ++ (" worlds, " : Str) ++ (toString ((ys.length : Nat) : Int) : Str)) (" atoms" : Str)
    rw [show (" atoms" : Str).length = 6 by decide +kernel] at u4
    refine .inr ⟨_, rfl, lg _ l56, _, rfl, lt_line (by omega), _, rfl, lt_line (by omega), ?_⟩
    exact q ys H1 ap s1
end


end My
namespace My
open PySem PySem.Spec PyProof.Rows L2 TL
set_option pp.maxSteps 3000
set_option pp.deepTerms false
/-! ### rooms: one like another -/
def datI (r : List Nat) : PyData := .tuple (r.map fun n => PyData.int (n : Nat))
def datS (r : List Str) : PyData := .tuple (r.map PyData.str)
def datR (rs : List (List Nat)) (ts : List (List Str)) : PyData := .tuple ((rs.zip ts).map fun p => .tuple [datI p.1, datS p.2])
theorem dp_vi {K : PySem.W.Frag} {H : Hp} : ∀ r : List Nat, DpAll K H (VI r) (r.map fun n => PyData.int (n : Nat))
  | [] => .nil
  | n :: r => .cons (.int _) (dp_vi r)
theorem dp_strs {K : PySem.W.Frag} {H : Hp} : ∀ r : List Str, DpAll K H (r.map V.str) (r.map PyData.str)
  | [] => .nil
  | n :: r => .cons (.str _) (dp_strs r)
theorem dp_all {K : PySem.W.Frag} {H : Hp} : ∀ {xs : List V} {ds : List PyData}, xs.length = ds.length → (∀ (i : Nat) (x : V) (d : PyData), xs[i]? = some x → ds[i]? = some d → Dp K H x d) → DpAll K H xs ds
  | [], [], _, _ => .nil
  | [], _ :: _, h, _ => by cases h
  | _ :: _, [], h, _ => by cases h
  | x :: xs, d :: ds, h, f => .cons (f 0 x d rfl rfl) (dp_all (Nat.succ.inj h) fun i y e h1 h2 => f (i + 1) y e h1 h2)
theorem strOk_of {x : Str} (ha : ∀ c ∈ x.cps.toList, c < 128) : PyData.strOk x = true := by
  unfold PyData.strOk
  rw [← Array.all_toList]
  exact List.all_eq_true.mpr fun c hc => decide_eq_true (Nat.lt_trans (ha c hc) (by decide))
theorem lay_map {α : Type} {f : α → PyData} : ∀ {l : List α}, (∀ x ∈ l, (f x).canLay0 = true) → PyData.canLayAll0 (l.map f) = true
  | [], _ => rfl
  | x :: l, h => by
    rw [List.map_cons, PyData.canLayAll0, h x List.mem_cons_self, lay_map fun y hy => h y (List.mem_cons_of_mem _ hy)]
    rfl
def AscR (ts : List (List Str)) : Prop := ∀ t ∈ ts, ∀ x ∈ t, ∀ c ∈ x.cps.toList, c < 128
theorem lay_I (r : List Nat) : PyData.canLayAll0 (r.map fun n => PyData.int (n : Nat)) = true := lay_map fun _ _ => by rw [PyData.canLay0]
theorem lay_S {t : List Str} (h : ∀ x ∈ t, ∀ c ∈ x.cps.toList, c < 128) : PyData.canLayAll0 (t.map PyData.str) = true := lay_map fun x hx => by rw [PyData.canLay0]; exact strOk_of (h x hx)
abbrev DR := PySem.W.Tup (PySem.W.Tup Int × PySem.W.Tup Str)
def drOf (rs : List (List Nat)) (ts : List (List Str)) : DR := ⟨(rs.zip ts).map fun p => (⟨p.1.map fun n => ((n : Nat) : Int)⟩, ⟨p.2⟩)⟩
theorem datR_is (rs : List (List Nat)) (ts : List (List Str)) : datR rs ts = PySem.W.Datum.toD (drOf rs ts) := by
  unfold datR drOf
  show PyData.tuple _ = PyData.tuple _
  rw [List.map_map]
  congr 1
  refine List.map_congr_left fun p _ => ?_
  show PyData.tuple [datI p.1, datS p.2] = PyData.tuple [PyData.tuple ((p.1.map fun n => ((n : Nat) : Int)).map PySem.W.Datum.toD), PyData.tuple (p.2.map PySem.W.Datum.toD)]
  rw [List.map_map]
  rfl
theorem cast_inj : ∀ {r s : List Nat}, r.map (fun n => ((n : Nat) : Int)) = s.map (fun n => ((n : Nat) : Int)) → r = s
  | [], [], _ => rfl
  | [], _ :: _, h => by cases h
  | _ :: _, [], h => by cases h
  | a :: r, b :: s, h => by
    rw [List.map_cons, List.map_cons] at h
    injection h with h1 h2
    rw [Int.ofNat.inj h1, cast_inj h2]
theorem drOf_inj : ∀ {rs rs2 : List (List Nat)} {ts ts2 : List (List Str)}, rs.length = ts.length → rs2.length = ts2.length → (drOf rs ts = drOf rs2 ts2 ↔ (rs = rs2 ∧ ts = ts2)) := by
  intro rs rs2 ts ts2 l1 l2
  refine ⟨fun h => ?_, fun ⟨h1, h2⟩ => by rw [h1, h2]⟩
  have h : (rs.zip ts).map (fun p => ((⟨p.1.map fun n => ((n : Nat) : Int)⟩ : PySem.W.Tup Int), (⟨p.2⟩ : PySem.W.Tup Str))) = (rs2.zip ts2).map fun p => (⟨p.1.map fun n => ((n : Nat) : Int)⟩, ⟨p.2⟩) := PySem.W.Tup.mk.inj h
  have z : rs.zip ts = rs2.zip ts2 := (List.map_inj_right (fun a b e => by
    injection e with e1 e2
    injection e1 with e1
    injection e2 with e2
    exact Prod.ext (cast_inj e1) e2)).mp h
  constructor
  · have := congrArg (List.map Prod.fst) z
    rw [List.map_fst_zip (by omega), List.map_fst_zip (by omega)] at this
    exact this
  · have := congrArg (List.map Prod.snd) z
    rw [List.map_snd_zip (by omega), List.map_snd_zip (by omega)] at this
    exact this
theorem shaped_R {rs : List (List Nat)} {ts : List (List Str)} (h : AscR ts) : SeqAt.shaped (datR rs ts) = true := by
  unfold SeqAt.shaped
  rw [Bool.and_eq_true_iff]
  constructor
  · unfold datR
    rw [PyData.canLay0]
    refine lay_map fun p hp => ?_
    have ht := (List.of_mem_zip hp).2
    rw [PyData.canLay0, PyData.canLayAll0, PyData.canLayAll0, PyData.canLayAll0]
    unfold datI datS
    rw [PyData.canLay0, PyData.canLay0, lay_I, lay_S (h _ ht)]
    rfl
  · refine decide_eq_true (Nat.le_trans (?_ : _ ≤ PySem.W.Datum.depth DR) (by decide))
    rw [datR_is]
    exact PySem.W.Datum.depth_le _
def sp_Room___eq__ (K : PySem.W.Frag) (C : Addr) : Sp := fun vs H Q _ => ∃ v rs ts w, vs = [v, w] ∧ IsRm K C H v rs ts ∧
  ((∃ t, TyX K H w t ∧ PySem.W.kitOne K t (.ref C) = some false ∧ Q (.bl false) H) ∨
   ∃ rs2 ts2, IsRm K C H w rs2 ts2 ∧ AscR ts ∧ AscR ts2 ∧ ∀ b, (b = true ↔ (rs = rs2 ∧ ts = ts2)) → Q (.bl b) H)
theorem rm_ty {K : PySem.W.Frag} {C : Addr} {H : Hp} {a dx : Addr} {fs : List (Str × V)} (k : Cls K C) (x : XRoom K C) (h : H a = some (.ins C dx fs)) : TyX K H (.ref a) (.ref C) := .base (.ins h k x.cl1 x.cl2 x.cl3 x.cl4)
theorem kit_self30 {K : PySem.W.Frag} (C : Addr) : PySem.W.kitOne K (.ref C) (.ref C) = some true := by
  unfold PySem.W.kitOne
  rw [if_pos (by simp)]
section
variable {P : Program} {w : World} {K : PySem.W.Frag} {mg : Str → Option Value} {base : Heap} {C_Room : Addr}
theorem IsRm.rows {H : Hp} {v : V} {rs : List (List Nat)} {ts : List (List Str)} {xs1 xs2 : List V} {ps : List Addr} {rw : Addr} (ord : OrdP rs) (tru : TruP rs ts) (v1 : RowsV K H xs1 (rs.map some)) (v2 : RowsS K H xs2 (ts.map some)) (h3 : H rw = some (.tup (ps.map V.ref))) (lps : ps.length = xs1.length)
    (at' : ∀ (i : Nat) (p : Addr) (a b : V), ps[i]? = some p → xs1[i]? = some a → xs2[i]? = some b → H p = some (.tup [a, b])) : Dp K H (.ref rw) (datR rs ts) := by
  have l1 : xs1.length = rs.length := v1.1.trans (List.length_map _)
  have l2 : xs2.length = ts.length := v2.1.trans (List.length_map _)
  have lt := tru.1
  refine .tup (SqT.of h3) (dp_all (by rw [List.length_map, List.length_map, List.length_zip]; omega) fun i x d e1 e2 => ?_)
  rw [List.getElem?_map] at e1 e2
  obtain ⟨p, ep, rfl⟩ := Option.map_eq_some_iff.mp e1
  obtain ⟨⟨r, t⟩, ez, rfl⟩ := Option.map_eq_some_iff.mp e2
  obtain ⟨er, et⟩ := List.getElem?_zip_eq_some.mp ez
  have li := lt_of_get er
  have x1 := List.getElem?_eq_getElem (show i < xs1.length by omega)
  have x2 := List.getElem?_eq_getElem (show i < xs2.length by omega)
  obtain ⟨r1, hr1, hv1⟩ := v1.2 i _ x1
  obtain ⟨r2, hr2, hv2⟩ := v2.2 i _ x2
  rw [List.getElem?_map] at hr1 hr2
  rw [show rs[i]? = some r from er] at hr1
  rw [show ts[i]? = some t from et] at hr2
  obtain rfl := Option.some.inj hr1
  obtain rfl := Option.some.inj hr2
  obtain ⟨q1, f1, g1, _⟩ := hv1
  obtain ⟨q2, f2, g2, _⟩ := hv2
  have hp := at' i p _ _ ep x1 x2
  rw [f1, f2] at hp
  exact .tup (SqT.of hp) (.cons (.tup (SqT.of g1) (dp_vi r)) (.cons (.tup (SqT.of g2) (dp_strs t)) .nil))
theorem ok_Room___eq__ (T : Txt K mg C_Room) {f : Addr} {fd : FuncData} (F : Fun K "__eq__" "Room.__eq__" s_Room___eq__ f fd) : FnOk P w K mg base CX0 1 f fd ["self", "other"] (sp_Room___eq__ K C_Room) := by
  have nd := sc_Room___eq__.nd
  refine F.ok sc_Room___eq__ (fun vs H Q E h => ?_) (fun cdv A outer s H vs Q E hr h => ?_)
  · obtain ⟨v, rs, ts, w, rfl, _⟩ := h
    rfl
  · obtain ⟨v, rs, ts, w, rfl, rm, h⟩ := h
    refine ⟨_, (pss_one (ps_ret (pe_and (pe_callB call_isi (by rfl) T.b_isinstance (by decide +kernel) (pa_cons (pv 1) (pa_cons (pe_glob (v := .ref C_Room) rfl T.c_Room rfl) pa_nil))) (pe_one (pe_cmpR (op_eqD hr.units) (pe_fld (pv 0) rfl) (pe_fld (pv 1) rfl) (nomark _)))))), ?_⟩
    rcases h with ⟨t, ht, hk, q⟩ | ⟨rs2, ts2, rm2, as1, as2, q⟩
    · exact ⟨w, rfl, w, .ref C_Room, t, .ref C_Room, false, rfl, .own _, ht, hk, false, rfl, iteF q⟩
    · obtain ⟨⟨x, dx, p1, p2, rw, ab, xs1, xs2, ps, rfl, hx, h1, v1, h2, v2, h3, lps, at'⟩, ord, tru⟩ := rm
      obtain ⟨⟨x', dx', p1', p2', rw', ab', xs1', xs2', ps', rfl, hx', h1', v1', h2', v2', h3', lps', at2⟩, ord', tru'⟩ := rm2
      have d1 := IsRm.rows (v := .non) ord tru v1 v2 h3 lps at'
      have d2 := IsRm.rows (v := .non) ord' tru' v1' v2' h3' lps' at2
      refine ⟨.ref x', rfl, .ref x', .ref C_Room, .ref C_Room, .ref C_Room, true, rfl, .own _, rm_ty T.k_Room T.x_Room hx', kit_self30 _, true, rfl, iteT ?_⟩
      refine ⟨.ref x, rfl, x, C_Room, dx, _, .ref rw, rfl, hx, T.k_Room, T.x_Room.n_rows, rfl, .ref x', rfl, x', C_Room, dx', _, .ref rw', rfl, hx', T.k_Room, T.x_Room.n_rows, rfl, _, _, d1, d2, shaped_R as1, shaped_R as2, ?_⟩
      refine q _ ?_
      rw [datR_is, datR_is, PySem.W.Datum.eqv, decide_eq_true_iff]
      exact drOf_inj tru.1.symm tru'.1.symm
end


end My
namespace My
open PySem PySem.Spec PyProof.Rows L2 TL
set_option pp.maxSteps 3000
set_option pp.deepTerms false
theorem intBits_le (x : Int) {n : Nat} (h : x.natAbs < 2 ^ n) (h0 : 0 < n) : Builtin.Int.intBits x ≤ n := by
  have e := PySem.Flt.log2_lt_of h0 h
  unfold Builtin.Int.intBits
  split <;> omega
section
variable {P : Program} {w : World} {K : PySem.W.Frag} {mg : Str → Option Value} {base : Heap}
theorem ok__law_roll (T : Txt K mg C_Room) {f : Addr} {fd : FuncData} (F : Fun K "_law_roll" "_law_roll" s__law_roll f fd) : FnOkG P w K mg base CX0 1 f fd ["_law_dice_here", "_law_total"] (sp__law_roll K) := by
  have nd := sc__law_roll.nd
  refine F.okG sc__law_roll (fun vs H Q E h => ?_) (fun cdv A outer s H vs Q E hr hG h => ?_)
  · obtain ⟨d, n, rfl, _⟩ := h
    rfl
  · obtain ⟨d, n, rfl, ⟨a, b, c, hd⟩, h0, h1, q⟩ := h
    refine ⟨_, (pss_cons (ps_if (pt_cmpR op_gt (pe_ix ix_list (pv 0) pe_int (fun _ _ => rfl)) pe_int (nomark _)) (pss_cons (ps_set (i := 2) nd rfl (.inl rfl) (pe_op op_mod (pe_callTy call_int1 (by rfl) T.b_int (by decide +kernel) (pa_cons (pe_ix ix_list (pv 0) pe_int (fun _ _ => rfl)) pa_nil)) (pv 1)))
      (pss_cons (ps_asg (pe_op op_fdiv (pe_ix ix_list (pv 0) pe_int (fun _ _ => rfl)) (pv 1)) (pg_sub (pv 0) pe_int set_list))
      (pss_one (ps_ret (pv 2))))) pss_nil)
      (pss_cons (ps_asg (pe_op op_add (pe_ix ix_list (pv 0) pe_int (fun _ _ => rfl)) pe_int) (pg_sub (pv 0) pe_int set_list))
      (pss_cons (ps_set (i := 3) nd rfl (.inl rfl) (pe_op op_mod (pe_callTy call_int1 (by rfl) T.b_int (by decide +kernel) (pa_cons (pe_op op_add (pe_ix ix_list (pv 0) pe_int (fun _ _ => rfl)) (pe_op op_mul pe_int (pe_ix ix_list (pv 0) pe_int (fun _ _ => rfl)))) pa_nil)) pe_int))
      (pss_cons (ps_set (i := 4) nd rfl (.inl rfl) (pe_op op_add (pe_op op_mul (pe_op op_mod (pe_callTy call_int1 (by rfl) T.b_int (by decide +kernel) (pa_cons (pe_op op_mul (pv 3) (pv 3)) pa_nil)) pe_int) (pv 3)) (pe_op op_mul pe_int (pe_ix ix_list (pv 0) pe_int (fun _ _ => rfl)))))
      (pss_cons (ps_set (i := 4) nd rfl (.inl rfl) (pe_op op_mod (pe_callTy call_int1 (by rfl) T.b_int (by decide +kernel) (pa_cons (pv 4) pa_nil)) pe_int))
      (pss_one (ps_ret (pe_op op_mod (pe_callTy call_int1 (by rfl) T.b_int (by decide +kernel) (pa_cons (pe_op op_fdiv (pv 4) pe_int) pa_nil)) (pv 1))))))))), ?_⟩
    have g0 : SqL K H d [.int a, .int b, .int c] := SqL.of hd
    refine ⟨.ref d, rfl, d, _, 0, _, rfl, rfl, g0, rfl, a, 0, rfl, rfl, _, rfl, ?_⟩
    refine ite2 (fun _ => ?_) (fun _ => ?_)
    · refine ⟨.ref d, rfl, d, _, 0, _, rfl, rfl, g0, rfl, .inl ⟨a, rfl, .int n, rfl, a, n, rfl, rfl, h0, ?_⟩⟩
      refine ⟨.ref d, rfl, d, _, 0, _, rfl, rfl, g0, rfl, .int n, rfl, a, n, rfl, rfl, ⟨h0, h1⟩, ?_⟩
      refine ⟨.ref d, rfl, d, _, 0, 0, rfl, rfl, hd, rfl, ?_⟩
      refine ⟨.int (a % n), rfl, ?_⟩
      exact q _ _ (Int.emod_nonneg _ (by omega)) (Int.emod_lt_of_pos _ h0) Ext.set ⟨_, _, _, upd_same⟩
    · refine ⟨.ref d, rfl, d, _, 2, _, rfl, rfl, g0, rfl, c, 1, rfl, rfl, ?_⟩
      refine ⟨.ref d, rfl, d, _, 2, 2, rfl, rfl, hd, rfl, ?_⟩
      have g2 : SqL K (upd H d (.lst [.int a, .int b, .int (c + 1)])) d [.int a, .int b, .int (c + 1)] := SqL.of upd_same
      refine ⟨.ref d, rfl, d, _, 1, _, rfl, rfl, g2, rfl, .ref d, rfl, d, _, 2, _, rfl, rfl, g2, rfl, 998244293, c + 1, rfl, rfl, .inl ⟨by decide, by decide⟩, b, _, rfl, rfl, ?_⟩
      refine .inl ⟨_, rfl, _, _, rfl, rfl, (show (0 : Int) < 2305843009213693951 by decide), ?_⟩
      have x0 : 0 ≤ (b + 998244293 * (c + 1)) % 2305843009213693951 := Int.emod_nonneg _ (by decide)
      have x1 : (b + 998244293 * (c + 1)) % 2305843009213693951 < 2305843009213693951 := Int.emod_lt_of_pos _ (by decide)
      have xm : -(2 ^ 64 : Int) < (b + 998244293 * (c + 1)) % 2305843009213693951 ∧ (b + 998244293 * (c + 1)) % 2305843009213693951 < 2 ^ 64 := ⟨by omega, by omega⟩
      refine ⟨_, rfl, _, rfl, _, _, rfl, rfl, .inl xm, .inl ⟨_, rfl, _, _, rfl, rfl, (show (0 : Int) < 2305843009213693921 by decide), ?_⟩⟩
      refine ⟨_, rfl, _, _, rfl, rfl, .inr xm, ?_⟩
      refine ⟨.ref d, rfl, d, _, 2, _, rfl, rfl, g2, rfl, 9413, c + 1, rfl, rfl, .inl ⟨by decide, by decide⟩, _, _, rfl, rfl, ?_⟩
      refine ⟨_, rfl, .inl ⟨_, rfl, _, _, rfl, rfl, (show (0 : Int) < 2305843009213693669 by decide), ?_⟩⟩
      refine ⟨_, rfl, _, _, rfl, rfl, ⟨(show (0 : Int) < 8192 by decide), (show (8192 : Int) < 1073741824 by decide)⟩, .inl ⟨_, rfl, .int n, rfl, _, n, rfl, rfl, h0, ?_⟩⟩
      exact q _ _ (Int.emod_nonneg _ (by omega)) (Int.emod_lt_of_pos _ h0) Ext.set ⟨_, _, _, upd_same⟩
theorem ok__law_pick (T : Txt K mg C_Room) (c__law_roll : Cal P w K mg base "_law_roll" 1 ["_law_dice_here", "_law_total"] (sp__law_roll K)) {f : Addr} {fd : FuncData} (F : Fun K "_law_pick" "_law_pick" s__law_pick f fd) : FnOkG P w K mg base CX0 2 f fd ["_law_dice_here", "_law_items"] (sp__law_pick K) := by
  have nd := sc__law_pick.nd
  refine F.okG sc__law_pick (fun vs H Q E h => ?_) (fun cdv A outer s H vs Q E hr hG h => ?_)
  · obtain ⟨d, l, xs, rfl, _⟩ := h
    rfl
  · obtain ⟨d, l, xs, rfl, hd, hl, ne, xne, hz, q⟩ := h
    refine ⟨_, (pss_one (ps_ret (pe_ix ix_list (pv 1) (pe_callC c__law_roll (hr.mono (by first | decide | omega)) hG rfl (pa_cons (pv 0) (pa_cons (pe_callB call_len (by rfl) T.b_len (by decide +kernel) (pa_cons (pv 1) pa_nil)) pa_nil))) (fun _ _ => rfl)))), ?_⟩
    have h1 : 0 < xs.length := List.length_pos_iff.mpr xne
    refine ⟨.ref l, rfl, .ref d, rfl, .ref l, rfl, .ref l, xs.length, rfl, .inl ⟨xs, hl, rfl⟩, ?_⟩
    refine ⟨d, (xs.length : Int), rfl, hd, by omega, by omega, fun r H' r0 r1 e dd => ?_⟩
    have hr' : r.toNat < xs.length := by omega
    have er : r = (r.toNat : Int) := by omega
    refine ⟨l, xs, r, xs[r.toNat], rfl, rfl, sql_ext e ne hl, ?_, ?_⟩
    · have g := atI_nat (List.getElem?_eq_getElem hr')
      rw [← er] at g
      exact g
    · exact q _ _ (List.getElem_mem hr') e dd
end

section
variable {P : Program} {w : World} {K : PySem.W.Frag} {mg : Str → Option Value} {base : Heap}
theorem ok__law_dice (T : Txt K mg C_Room) {f : Addr} {fd : FuncData} (F : Fun K "_law_dice" "_law_dice" s__law_dice f fd) : FnOkG P w K mg base CX0 1 f fd ["_law_script", "_law_spot"] (sp__law_dice K) := by
  have nd := sc__law_dice.nd
  refine F.okG sc__law_dice (fun vs H Q E h => ?_) (fun cdv A outer s H vs Q E hr hG h => ?_)
  · obtain ⟨a, ns, i, rfl, _⟩ := h
    rfl
  · obtain ⟨a, ns, i', rfl, hS, hi0, hi, q⟩ := h
    obtain ⟨i, rfl⟩ := Int.eq_ofNat_of_zero_le hi0
    refine ⟨_, (pss_cons (ps_set (i := 2) nd rfl (.inl rfl) (pe_op op_add (pe_op op_mul pe_int (pv 1)) pe_int))
      (pss_cons (ps_if (pt_cmpR op_lt (pv 1) (pe_callB call_len (by rfl) T.b_len (by decide +kernel) (pa_cons (pv 0) pa_nil)) (nomark _)) (pss_one (ps_set (i := 2) nd rfl (.inl rfl) (pe_ix ix_list (pv 0) (pv 1) (fun _ _ => rfl)))) pss_nil)
      (pss_cons (ps_set (i := 3) nd rfl (.inl rfl) (pe_op op_mod (pe_callTy call_int1 (by rfl) T.b_int (by decide +kernel) (pa_cons (pe_callB call_abs (by rfl) T.b_abs (by decide +kernel) (pa_cons (pv 2) pa_nil)) pa_nil)) (pe_op op_powW (pe_op op_powW pe_int pe_int) pe_int)))
      (pss_cons (ps_set (i := 4) nd rfl (.inl rfl) (pe_op op_add (pe_op op_add (pe_op op_add (pe_op op_mul (pe_op op_mod (pe_callTy call_int1 (by rfl) T.b_int (by decide +kernel) (pa_cons (pv 3) pa_nil)) pe_int) pe_int) (pe_op op_mul pe_int (pv 1))) (pe_op op_mul pe_int (pe_callTy call_int1 (by rfl) T.b_int (by decide +kernel) (pa_cons (pe_cmpR op_lt (pv 2) pe_int (nomark _)) pa_nil)))) pe_int))
      (pss_one (ps_ret (pe_lst (pa_cons (pe_callB (call_max2 rfl) (by rfl) T.b_max (by decide +kernel) (pa_cons pe_int (pa_cons (pe_op op_sub (pv 3) (pe_op op_powW pe_int pe_int)) pa_nil))) (pa_cons (pe_op op_mod (pe_callTy call_int1 (by rfl) T.b_int (by decide +kernel) (pa_cons (pv 4) pa_nil)) pe_int) (pa_cons pe_int pa_nil)))))))))), ?_⟩
    refine ⟨.int i, rfl, _, _, rfl, rfl, .inl ⟨by decide, by decide⟩, _, _, rfl, rfl, ?_⟩
    refine ⟨.int i, rfl, .ref a, rfl, .ref a, _, rfl, .inl ⟨_, hS, rfl⟩, _, _, rfl, rfl, _, rfl, ?_⟩
    have p1 : (0 : Int) < (10 ^ 60) ^ 10 := by decide +kernel
    have p2 : (0 : Int) < 2305843009213693669 := by decide
    refine ite2 (fun hlt => ?_) (fun _ => ?_)
    · have hlt' : i < ns.length := by
        have := of_decide_eq_true hlt
        rw [List.length_map] at this
        omega
      refine ⟨.ref a, rfl, .int i, rfl, a, _, _, .int ns[i], rfl, rfl, hS, atI_nat (by rw [List.getElem?_map, List.getElem?_eq_getElem hlt']; rfl), ?_⟩
      refine ⟨_, rfl, _, rfl, .inl ⟨_, rfl, 10, 60, rfl, rfl, ⟨by decide, by decide +kernel⟩, _, 10, rfl, rfl, ⟨by decide, by decide +kernel⟩, _, _, rfl, rfl, p1, ?_⟩⟩
      refine ⟨_, rfl, .inl ⟨_, rfl, _, _, rfl, rfl, p2, _, _, rfl, rfl, .inr ⟨by decide, by decide⟩, .int i, rfl, _, _, rfl, rfl, .inl ⟨by decide, by decide⟩, _, _, rfl, rfl, ?_⟩⟩
      refine ⟨_, rfl, _, _, rfl, rfl, .inr ⟨_, rfl, _, _, rfl, rfl, .inl ⟨by decide, by decide⟩, _, _, rfl, rfl, _, _, rfl, rfl, ?_⟩⟩
      refine ⟨_, rfl, 10, 18, rfl, rfl, ⟨by decide, by decide +kernel⟩, _, _, rfl, rfl, _, _, rfl, _, rfl, .inl ⟨_, rfl, _, _, rfl, rfl, p2, by show 3 ≤ sizeLine; decide, fun p hp => q p _ hp ⟨_, _, _, upd_same⟩⟩⟩
    · refine ⟨_, rfl, _, rfl, .inl ⟨_, rfl, 10, 60, rfl, rfl, ⟨by decide, by decide +kernel⟩, _, 10, rfl, rfl, ⟨by decide, by decide +kernel⟩, _, _, rfl, rfl, p1, ?_⟩⟩
      refine ⟨_, rfl, .inl ⟨_, rfl, _, _, rfl, rfl, p2, _, _, rfl, rfl, .inr ⟨by decide, by decide⟩, .int i, rfl, _, _, rfl, rfl, .inl ⟨by decide, by decide⟩, _, _, rfl, rfl, ?_⟩⟩
      refine ⟨_, rfl, _, _, rfl, rfl, .inr ⟨_, rfl, _, _, rfl, rfl, .inl ⟨by decide, by decide⟩, _, _, rfl, rfl, _, _, rfl, rfl, ?_⟩⟩
      refine ⟨_, rfl, 10, 18, rfl, rfl, ⟨by decide, by decide +kernel⟩, _, _, rfl, rfl, _, _, rfl, _, rfl, .inl ⟨_, rfl, _, _, rfl, rfl, p2, by show 3 ≤ sizeLine; decide, fun p hp => q p _ hp ⟨_, _, _, upd_same⟩⟩⟩
end


end My
namespace My
open PySem PySem.Spec PyProof.Rows L2 TL
set_option pp.maxSteps 3000
set_option pp.deepTerms false
theorem ixat {n : Nat} {r : Int} (h0 : 0 ≤ r) (h1 : r < n) : seqIndex? r n = some r.toNat := by
  have e : ixN n r = some r.toNat := by
    unfold ixN
    rw [if_pos h0, if_pos h1]
  exact (ixN_seq e).1
/-! ### _law_some, with a number that may be greater than the row: how many there are -/
def sp__law_some4 (K : PySem.W.Frag) : Sp := fun vs H Q _ => ∃ (d l : Addr) (xs : List V) (n : Nat), vs = [.ref d, .ref l, .int n] ∧ IsDice H d ∧ SqL K H l xs ∧ l ≠ d ∧ xs.length < 1000000 ∧
  ∀ p ys left H', (ys ++ left).Perm xs → ys.length = min n xs.length → H p = none → p ≠ d → H' p = some (.lst ys) → Ext d H H' → IsDice H' d → Q (.ref p) H'
section
variable {P : Program} {w : World} {K : PySem.W.Frag} {mg : Str → Option Value} {base : Heap}
theorem ok__law_some (T : Txt K mg C_Room) (c__law_roll : Cal P w K mg base "_law_roll" 1 ["_law_dice_here", "_law_total"] (sp__law_roll K)) {f : Addr} {fd : FuncData} (F : Fun K "_law_some" "_law_some" s__law_some f fd) : FnOkG P w K mg base CX0 2 f fd ["_law_dice_here", "_law_items", "_law_size"] (sp__law_some4 K) := by
  have nd := sc__law_some.nd
  refine F.okG sc__law_some (fun vs H Q E h => ?_) (fun cdv A outer s H vs Q E hr hG h => ?_)
  · obtain ⟨d, l, xs, n, rfl, _⟩ := h
    rfl
  · obtain ⟨d, l, xs, n, rfl, hd, hl, ne, hz, q⟩ := h
    have n0 : (0 : Int) ≤ n := Int.natCast_nonneg n
    refine ⟨_, (pss_cons (ps_set (i := 3) nd rfl (.inr rfl) (pe_callTy call_list_of (by rfl) T.b_list (by decide +kernel) (pa_cons (pv 1) pa_nil)))
      (pss_one (ps_ret (pe_lcD (own := [("_law_turn", 4)]) (by rfl) nd (pi_range1 (by rfl) T.b_range (pa_cons (pe_callB (call_min2 rfl) (by rfl) T.b_min (by decide +kernel) (pa_cons (pv 2) (pa_cons (pe_callB call_len (by rfl) T.b_len (by decide +kernel) (pa_cons (pv 3) pa_nil)) pa_nil))) pa_nil)) (blkOk_by (own := [("_law_turn", 4)]) (N := ["_law_dice_here", "_law_items", "_law_size", "_law_left", "_law_turn"]) (sc := (defScope s__law_some)) (by decide +kernel)) (fun _ _ _ _ _ => pg_name (i := 4) nd rfl (Or.inl rfl)) (fun _ _ _ _ _ => pts_nil) (fun _ _ _ _ _ => (pe_bm PySem.F.plainAttrs_list PySem.F.slot_list_pop PySem.F.type_list_pop mt_popAt (pv 3) (pa_cons (pe_callC c__law_roll (hr.mono (by first | decide | omega)) hG rfl (pa_cons (pv 0) (pa_cons (pe_callB call_len (by rfl) T.b_len (by decide +kernel) (pa_cons (pv 3) pa_nil)) pa_nil))) pa_nil))))))), ?_⟩
    refine ⟨.ref l, rfl, l, xs, rfl, .inl hl, fun p hp => ?_⟩
    have nep : p ≠ d := hd.ne hp
    have e1 : Ext d H (upd H p (.lst xs)) := (Ext.refl H).new hp
    have d1 := hd.new (o := .lst xs) hp
    refine ⟨.int n, rfl, .ref p, rfl, .ref p, xs.length, rfl, .inl ⟨xs, SqL.of upd_same, rfl⟩, (n : Int), _, rfl, _, rfl, ?_, ?_, fun D hD => ?_⟩
    · by_cases h : (xs.length : Int) < n <;> simp only [h, if_true, if_false] <;> omega
    · by_cases h : (xs.length : Int) < n <;> simp only [h, if_true, if_false] <;> omega
    have neD : D ≠ d := d1.ne hD
    have npD : p ≠ D := fun z => by
      rw [← z, upd_same] at hD
      cases hD
    have hDH : H D = none := e1.none neD hD
    have hm : (if (xs.length : Int) < n then (xs.length : Int) else n).toNat ≤ xs.length := by
      by_cases h : (xs.length : Int) < n <;> simp only [h, if_true, if_false] <;> omega
    refine lc_range (lo := 0) (n := (if (xs.length : Int) < n then (xs.length : Int) else n).toNat)
      (fun i H' => ∃ left ys : List V, H' p = some (.lst left) ∧ H' D = some (.lst ys) ∧ left.length + i = xs.length ∧ ys.length = i ∧ (ys ++ left).Perm xs ∧ Ext d H H' ∧ IsDice H' d) ?_ (fun i H1 hi hP => ?_) (fun H1 hP => ?_)
    · exact ⟨xs, [], by rw [upd_ne npD]; exact upd_same, upd_same, by simp, rfl, List.Perm.refl _, e1.new hD, d1.mut neD⟩
    · obtain ⟨left, ys, hp1, hD1, el, ey, pm, e2, d2⟩ := hP
      refine ⟨rfl, tyes ?_⟩
      have l0 : 0 < left.length := by omega
      refine ⟨.ref p, rfl, .inl ⟨rfl, _, SqL.of hp1⟩, .ref d, rfl, .ref p, rfl, .ref p, left.length, rfl, .inl ⟨left, SqL.of hp1, rfl⟩, ?_⟩
      refine ⟨d, (left.length : Int), rfl, d2, by omega, by omega, fun r H2 r0 r1 e3 d3 => ?_⟩
      have hr' : r.toNat < left.length := by omega
      refine ⟨p, left, r, r.toNat, left[r.toNat], rfl, rfl, e3 _ _ nep hp1, by omega, by omega, ixat r0 r1, List.getElem?_eq_getElem hr', ?_⟩
      have hD2 : H2 D = some (.lst ys) := e3 _ _ neD hD1
      refine ⟨ys, by rw [upd_ne npD.symm]; exact hD2, lt_line' (by omega), left.eraseIdx r.toNat, ys ++ [left[r.toNat]], by rw [upd_ne npD]; exact upd_same, upd_same, ?_, ?_, ?_, ?_, ?_⟩
      · rw [List.length_eraseIdx_of_lt hr']
        omega
      · simp [ey]
      · refine List.Perm.trans ?_ pm
        rw [List.append_assoc]
        exact (erase_perm left r.toNat _ (List.getElem?_eq_getElem hr')).append_left ys
      · exact ((e2.trans e3).mut hp).mut hDH
      · exact (d3.mut nep).mut neD
    · obtain ⟨left, ys, hp1, hD1, el, ey, pm, e2, d2⟩ := hP
      refine q D ys left H1 pm ?_ hDH neD hD1 e2 d2
      rw [ey]
      by_cases h : (xs.length : Int) < n <;> simp only [h, if_true, if_false] <;> omega
end


end My
namespace My
open PySem PySem.Spec PyProof.Rows L2 TL
set_option pp.maxSteps 3000
set_option pp.deepTerms false
/-! ### rows in order; rooms turned; rooms drawn -/
theorem asc_unique {α : Type} {r : α → α → Prop} (irr : ∀ a, ¬ r a a) (tr : ∀ a b c, r a b → r b c → r a c) : ∀ {xs ys : List α}, xs.Pairwise r → ys.Pairwise r → (∀ z, z ∈ xs ↔ z ∈ ys) → xs = ys
  | [], [], _, _, _ => rfl
  | [], y :: ys, _, _, h => by cases (h y).mpr List.mem_cons_self
  | x :: xs, [], _, _, h => by cases (h x).mp List.mem_cons_self
  | x :: xs, y :: ys, hx, hy, h => by
    obtain ⟨x1, x2⟩ := List.pairwise_cons.mp hx
    obtain ⟨y1, y2⟩ := List.pairwise_cons.mp hy
    have e : x = y := by
      rcases List.mem_cons.mp ((h x).mp List.mem_cons_self) with e | m
      · exact e
      · rcases List.mem_cons.mp ((h y).mpr List.mem_cons_self) with e | m2
        · exact e.symm
        · exact absurd (tr _ _ _ (y1 x m) (x1 y m2)) (irr y)
    subst e
    rw [asc_unique irr tr x2 y2 fun z => ⟨fun m => ?_, fun m => ?_⟩]
    · rcases List.mem_cons.mp ((h z).mp (List.mem_cons_of_mem _ m)) with e | m2
      · exact absurd (x1 z m) (e ▸ irr z)
      · exact m2
    · rcases List.mem_cons.mp ((h z).mpr (List.mem_cons_of_mem _ m)) with e | m2
      · exact absurd (y1 z m) (e ▸ irr z)
      · exact m2
theorem ltCps_is : ∀ a b : List Nat, ltCps a b = decide (a < b)
  | [], [] => by simp [ltCps]
  | [], _ :: _ => by simp [ltCps]
  | _ :: _, [] => by simp [ltCps]
  | x :: r, y :: s => by
    unfold ltCps
    rw [ltCps_is r s, Bool.eq_iff_iff]
    simp only [Bool.or_eq_true, Bool.and_eq_true, decide_eq_true_eq, beq_iff_eq]
    exact List.cons_lt_cons_iff.symm
theorem sorted_asc : ∀ {ys : List Str}, sortedS ys = true → ys.Nodup → ys.Pairwise ltS
  | [], _, _ => .nil
  | x :: r, h, n => by
    obtain ⟨n1, n2⟩ := List.nodup_cons.mp n
    refine List.pairwise_cons.mpr ⟨fun z hz => ?_, sorted_asc (rising_tail h) n2⟩
    have e := rising_all x r h z hz
    rw [ltCps_is, decide_eq_false_iff_not] at e
    show x.cps.toList < z.cps.toList
    rcases Decidable.em (x.cps.toList < z.cps.toList) with k | k
    · exact k
    · have e3 : x.cps.toList = z.cps.toList := List.le_antisymm (List.not_lt.mp e) (List.not_lt.mp k)
      have e4 : x = z := by
        cases x
        cases z
        exact congrArg _ (Array.toList_inj.mp e3)
      exact absurd (e4 ▸ hz) n1
theorem asc_ltS_one {ws ys : List Str} (so : sortedS ys = true) (nd : ys.Nodup) (mem : ∀ x, x ∈ ys ↔ x ∈ ws) : ws = ys ↔ ws.Pairwise ltS :=
  ⟨fun e => e ▸ sorted_asc so nd, fun h => asc_unique (fun a h => ltS_ne h rfl) (fun _ _ _ => ltS_trans) h (sorted_asc so nd) fun z => (mem z).symm⟩
theorem asc_lt_one {r s : List Nat} (h : s.Pairwise (· < ·)) (mem : ∀ x, x ∈ s ↔ x ∈ r) : r = s ↔ r.Pairwise (· < ·) :=
  ⟨fun e => e ▸ h, fun h2 => asc_unique (fun a h => Nat.lt_irrefl a h) (fun _ _ _ => Nat.lt_trans) h2 h fun z => (mem z).symm⟩
theorem le_lt {r : List Nat} (h : r.Pairwise (· ≤ ·)) (n : r.Nodup) : r.Pairwise (· < ·) := (List.pairwise_and_iff.mpr ⟨h, n⟩).imp fun ⟨a, b⟩ => Nat.lt_of_le_of_ne a b
/-! a room turned -/
structure TurnP (rs : List (List Nat)) (ts : List (List Str)) (ord : List Nat) (rs2 : List (List Nat)) (ts2 : List (List Str)) : Prop where
  l1 : rs2.length = ord.length
  l2 : ts2.length = ord.length
  row : ∀ (k w : Nat), ord[k]? = some w → ∃ row r2 js, rs[w]? = some row ∧ rs2[k]? = some r2 ∧ js.length = row.length ∧ (∀ (i o j : Nat), row[i]? = some o → js[i]? = some j → ord[j]? = some o) ∧ r2.Perm js ∧ r2.Pairwise (· ≤ ·)
  tru : ∀ (k w : Nat), ord[k]? = some w → ts2[k]? = ts[w]?
theorem nodup_at {l : List Nat} (h : l.Nodup) {i j x : Nat} (hi : l[i]? = some x) (hj : l[j]? = some x) : i = j := by
  have li := lt_of_get hi
  have lj := lt_of_get hj
  rw [List.getElem?_eq_getElem li] at hi
  rw [List.getElem?_eq_getElem lj] at hj
  exact (List.getElem_inj h).mp ((Option.some.inj hi).trans (Option.some.inj hj).symm)
theorem turn_room {rs : List (List Nat)} {ts : List (List Str)} {ord : List Nat} {rs2 : List (List Nat)} {ts2 : List (List Str)} (o : OrdP rs) (t : TruP rs ts) (pm : ord.Perm (List.range rs.length)) (h : TurnP rs ts ord rs2 ts2) : OrdP rs2 ∧ TruP rs2 ts2 := by
  have nd : ord.Nodup := pm.nodup_iff.mpr List.nodup_range
  have lo : ord.length = rs.length := by rw [pm.length_eq, List.length_range]
  have inR : ∀ {w}, w ∈ ord ↔ w < rs.length := fun {w} => by rw [pm.mem_iff, List.mem_range]
  have here : ∀ {w : Nat}, w < rs.length → ∃ k : Nat, ord[k]? = some w := fun {w} lt => List.mem_iff_getElem?.mp (inR.mpr lt)
  -- who stands in a turned row
  have who : ∀ {k w : Nat} {row r2 : List Nat}, ord[k]? = some w → rs[w]? = some row → rs2[k]? = some r2 → (r2.Pairwise (· < ·) ∧ ∀ j : Nat, j ∈ r2 ↔ ∃ o, ord[j]? = some o ∧ o ∈ row) := by
    intro k w row r2 ek ew e2
    obtain ⟨row', r2', js, f1, f2, lj, at', pj, le⟩ := h.row k w ek
    rw [ew] at f1
    rw [e2] at f2
    obtain rfl := Option.some.inj f1
    obtain rfl := Option.some.inj f2
    have rnd : row.Nodup := ((o.2.1 row (List.mem_of_getElem? ew)).1).imp fun a => Nat.ne_of_lt a
    have em : js.map (fun j => ord.getD j 0) = row := by
      refine List.ext_getElem? fun i => ?_
      rw [List.getElem?_map]
      rcases Nat.lt_or_ge i row.length with lt | ge
      · have e1 := List.getElem?_eq_getElem lt
        have e3 := List.getElem?_eq_getElem (show i < js.length by omega)
        rw [e1, e3]
        have z := at' i _ _ e1 e3
        show some (ord.getD _ 0) = _
        rw [List.getD_eq_getElem?_getD, z]
        rfl
      · rw [List.getElem?_eq_none ge, List.getElem?_eq_none (show js.length ≤ i by omega)]
        rfl
    have jnd : js.Nodup := by
      rw [← em] at rnd
      exact List.Pairwise.of_map _ (fun a b n e => n (by rw [e])) rnd
    refine ⟨le_lt le (pj.nodup_iff.mpr jnd), fun j => pj.mem_iff.trans ⟨fun m => ?_, fun ⟨ob, e1, m⟩ => ?_⟩⟩
    · obtain ⟨i, hi⟩ := List.mem_iff_getElem?.mp m
      have e1 := List.getElem?_eq_getElem (show i < row.length by have := lt_of_get hi; omega)
      exact ⟨_, at' i _ _ e1 hi, List.mem_of_getElem? e1⟩
    · obtain ⟨i, hi⟩ := List.mem_iff_getElem?.mp m
      have e3 := List.getElem?_eq_getElem (show i < js.length by have := lt_of_get hi; omega)
      have z := at' i _ _ hi e3
      rw [nodup_at nd e1 z]
      exact List.mem_of_getElem? e3
  have rowOf : ∀ {k : Nat} {r2 : List Nat}, rs2[k]? = some r2 → ∃ w row, ord[k]? = some w ∧ rs[w]? = some row := fun {k r2} e => by
    have lk := lt_of_get e
    have ek := List.getElem?_eq_getElem (show k < ord.length by rw [← h.l1]; exact lk)
    have lw := inR.mp (List.mem_of_getElem? ek)
    exact ⟨_, _, ek, List.getElem?_eq_getElem lw⟩
  have len2 : rs2.length = rs.length := h.l1.trans lo
  refine ⟨⟨by rw [len2]; exact o.1, fun r2 m => ?_, fun k r2 e2 => ?_⟩, ⟨by rw [h.l2, h.l1], fun tw m => ?_, fun k r2 e2 j mj tk tj ek ej => ?_⟩⟩
  · obtain ⟨k, e2⟩ := List.mem_iff_getElem?.mp m
    obtain ⟨w, row, ek, ew⟩ := rowOf e2
    obtain ⟨a1, a2⟩ := who ek ew e2
    refine ⟨a1, fun j mj => ?_⟩
    obtain ⟨ob, e1, _⟩ := (a2 j).mp mj
    rw [len2, ← lo]
    exact lt_of_get e1
  · obtain ⟨w, row, ek, ew⟩ := rowOf e2
    obtain ⟨a1, a2⟩ := who ek ew e2
    obtain ⟨b1, b2⟩ := o.2.2 w row ew
    refine ⟨(a2 k).mpr ⟨w, ek, b1⟩, fun j mj rj ej => ?_⟩
    obtain ⟨ob, e1, mo⟩ := (a2 j).mp mj
    obtain ⟨ob', ro, e1', er⟩ := rowOf ej
    rw [e1] at e1'
    obtain rfl := Option.some.inj e1'
    obtain ⟨c1, c2⟩ := who e1 er ej
    obtain ⟨d1, d2⟩ := b2 ob mo ro er
    refine ⟨fun x mx => ?_, fun ne mk => ?_⟩
    · obtain ⟨y, ey, my⟩ := (c2 x).mp mx
      exact (a2 x).mpr ⟨y, ey, d1 y my⟩
    · obtain ⟨y, ey, my⟩ := (c2 k).mp mk
      rw [ek] at ey
      obtain rfl := Option.some.inj ey
      exact d2 (fun e => ne (nodup_at nd (e ▸ e1) ek)) my
  · obtain ⟨k, e2⟩ := List.mem_iff_getElem?.mp m
    have ek := List.getElem?_eq_getElem (show k < ord.length by have := lt_of_get e2; rw [h.l2] at this; exact this)
    rw [h.tru k _ ek] at e2
    exact t.2.1 tw (List.mem_of_getElem? e2)
  · obtain ⟨w, row, fk, fw⟩ := rowOf e2
    obtain ⟨a1, a2⟩ := who fk fw e2
    obtain ⟨ob, e1, mo⟩ := (a2 j).mp mj
    rw [h.tru k w fk] at ek
    rw [h.tru j ob e1] at ej
    exact t.2.2 w row fw ob mo tk tj ek ej


end My
namespace My
open PySem PySem.Spec PyProof.Rows L2 TL
set_option pp.maxSteps 3000
set_option pp.deepTerms false
/-! ### a room drawn from its greatest world down -/
structure DrP (as : List Str) (n cur : Nat) (rs : List (List Nat)) (ts : List (List Str)) : Prop where
  l1 : rs.length = n
  l2 : ts.length = n
  asc : ∀ (w : Nat) (row : List Nat), cur ≤ w → rs[w]? = some row → row.Pairwise (· < ·) ∧ w ∈ row ∧ ∀ o ∈ row, w ≤ o ∧ o < n
  up : ∀ (w : Nat) (row : List Nat), cur ≤ w → rs[w]? = some row → ∀ o ∈ row, ∀ ro, rs[o]? = some ro → ∀ x ∈ ro, x ∈ row
  at' : ∀ (w : Nat) (tw : List Str), cur ≤ w → ts[w]? = some tw → tw.Pairwise ltS ∧ ∀ x ∈ tw, x ∈ as
  tru : ∀ (w : Nat) (row : List Nat) (tw : List Str), cur ≤ w → rs[w]? = some row → ts[w]? = some tw → ∀ o ∈ row, ∀ to, ts[o]? = some to → ∀ x ∈ tw, x ∈ to
structure FndP (n cur : Nat) (rs : List (List Nat)) (f : List Nat) : Prop where
  nd : f.Nodup
  me : cur ∈ f
  low : ∀ x ∈ f, cur ≤ x ∧ x < n
  up : ∀ x ∈ f, x ≠ cur → ∀ rx, rs[x]? = some rx → ∀ y ∈ rx, y ∈ f
theorem fnd_one {n cur : Nat} {rs : List (List Nat)} (h : cur < n) : FndP n cur rs [cur] where
  nd := List.nodup_cons.mpr ⟨fun z => (by cases z), List.nodup_nil⟩
  me := List.mem_singleton.mpr rfl
  low := fun x m => by rw [List.mem_singleton.mp m]; exact ⟨Nat.le_refl _, h⟩
  up := fun x m ne => absurd (List.mem_singleton.mp m) ne
theorem fnd_more {as : List Str} {n cur ot : Nat} {rs : List (List Nat)} {ts : List (List Str)} {f ro : List Nat} (d : DrP as n (cur + 1) rs ts) (h : FndP n cur rs f) (ho : cur + 1 ≤ ot) (hr : rs[ot]? = some ro) : FndP n cur rs (f ++ ro.filter fun x => decide (x ∉ f)) := by
  obtain ⟨a1, a2, a3⟩ := d.asc ot ro ho hr
  have mem : ∀ y, y ∈ f ++ ro.filter (fun x => decide (x ∉ f)) ↔ y ∈ f ∨ y ∈ ro := fun y => by
    rw [List.mem_append, List.mem_filter, decide_eq_true_iff]
    by_cases hy : y ∈ f <;> simp [hy]
  refine ⟨List.nodup_append.mpr ⟨h.nd, List.Pairwise.filter _ (a1.imp fun a => Nat.ne_of_lt a), fun a ha b hb e => ?_⟩, (mem _).mpr (.inl h.me), fun x m => ?_, fun x m ne rx hx y hy => ?_⟩
  · exact of_decide_eq_true (List.mem_filter.mp hb).2 (e ▸ ha)
  · rcases (mem x).mp m with m | m
    · exact h.low x m
    · obtain ⟨z1, z2⟩ := a3 x m
      exact ⟨by omega, z2⟩
  · rcases (mem x).mp m with m | m
    · exact (mem y).mpr (.inl (h.up x m ne rx hx y hy))
    · exact (mem y).mpr (.inr (d.up ot ro ho hr x m rx hx y hy))
theorem set_at {α : Type} {l : List α} {i j : Nat} {x y : α} (h : (l.set i x)[j]? = some y) : (j = i ∧ y = x) ∨ (j ≠ i ∧ l[j]? = some y) := by
  rw [List.getElem?_set] at h
  by_cases e : i = j
  · rw [if_pos e] at h
    by_cases lt : i < l.length
    · rw [if_pos lt] at h
      exact .inl ⟨e.symm, (Option.some.inj h).symm⟩
    · rw [if_neg lt] at h
      cases h
  · rw [if_neg e] at h
    exact .inr ⟨fun z => e z.symm, h⟩
theorem draw_step {as : List Str} {n cur : Nat} {rs : List (List Nat)} {ts : List (List Str)} {f row : List Nat} {tw : List Str} (d : DrP as n (cur + 1) rs ts) (hc : cur < n) (h : FndP n cur rs f) (pm : row.Perm f) (le : row.Pairwise (· ≤ ·)) (t1 : tw.Pairwise ltS) (t2 : ∀ x ∈ tw, x ∈ as)
    (t3 : ∀ o ∈ row, o ≠ cur → ∀ to, ts[o]? = some to → ∀ x ∈ tw, x ∈ to) : DrP as n cur (rs.set cur row) (ts.set cur tw) := by
  have mem : ∀ {y}, y ∈ row ↔ y ∈ f := fun {y} => pm.mem_iff
  refine ⟨by rw [List.length_set]; exact d.l1, by rw [List.length_set]; exact d.l2, fun w r hw hr => ?_, fun w r hw hr o ho ro hro x hx => ?_, fun w t hw ht => ?_, fun w r t hw hr ht o ho to hto x hx => ?_⟩
  · rcases set_at hr with ⟨rfl, rfl⟩ | ⟨ne, hr⟩
    · exact ⟨le_lt le (pm.nodup_iff.mpr h.nd), mem.mpr h.me, fun o m => h.low o (mem.mp m)⟩
    · exact d.asc w r (by omega) hr
  · rcases set_at hr with ⟨rfl, rfl⟩ | ⟨ne, hr⟩
    · rcases set_at hro with ⟨rfl, rfl⟩ | ⟨ne, hro⟩
      · exact hx
      · exact mem.mpr (h.up o (mem.mp ho) ne ro hro x hx)
    · have lo := (d.asc w r (by omega) hr).2.2 o ho
      rcases set_at hro with ⟨rfl, rfl⟩ | ⟨_, hro⟩
      · omega
      · exact d.up w r (by omega) hr o ho ro hro x hx
  · rcases set_at ht with ⟨rfl, rfl⟩ | ⟨ne, ht⟩
    · exact ⟨t1, t2⟩
    · exact d.at' w t (by omega) ht
  · rcases set_at hr with ⟨rfl, rfl⟩ | ⟨ne, hr⟩
    · rcases set_at ht with ⟨_, rfl⟩ | ⟨ne, ht⟩
      · rcases set_at hto with ⟨rfl, rfl⟩ | ⟨ne, hto⟩
        · exact hx
        · exact t3 o ho ne to hto x hx
      · exact absurd rfl ne
    · have lo := (d.asc w r (by omega) hr).2.2 o ho
      rcases set_at ht with ⟨rfl, _⟩ | ⟨_, ht⟩
      · exact absurd rfl ne
      · rcases set_at hto with ⟨rfl, rfl⟩ | ⟨_, hto⟩
        · omega
        · exact d.tru w r t (by omega) hr ht o ho to hto x hx
theorem draw_end {as : List Str} {n : Nat} {rs : List (List Nat)} {ts : List (List Str)} (d : DrP as n 0 rs ts) (len : 1 ≤ n ∧ n ≤ 60) (wd : ∀ x ∈ as, isW (.str x) = true) : OrdP rs ∧ TruP rs ts := by
  refine ⟨⟨by rw [d.l1]; exact len, fun row m => ?_, fun w row hw => ?_⟩, ⟨by rw [d.l1, d.l2], fun tw m => ?_, fun w row hw o ho tw to ht hto x hx => d.tru w row tw (Nat.zero_le _) hw ht o ho to hto x hx⟩⟩
  · obtain ⟨w, hw⟩ := List.mem_iff_getElem?.mp m
    obtain ⟨a1, a2, a3⟩ := d.asc w row (Nat.zero_le _) hw
    exact ⟨a1, fun o ho => by rw [d.l1]; exact (a3 o ho).2⟩
  · obtain ⟨a1, a2, a3⟩ := d.asc w row (Nat.zero_le _) hw
    refine ⟨a2, fun o ho ro hro => ⟨fun x hx => d.up w row (Nat.zero_le _) hw o ho ro hro x hx, fun ne m => ?_⟩⟩
    have z1 := (a3 o ho).1
    have z2 := ((d.asc o ro (Nat.zero_le _) hro).2.2 w m).1
    omega
  · obtain ⟨w, hw⟩ := List.mem_iff_getElem?.mp m
    obtain ⟨a1, a2⟩ := d.at' w tw (Nat.zero_le _) hw
    exact ⟨a1, fun x hx => wd x (a2 x hx)⟩
/-! lists of lists on the heap -/
def RowsX (H : Hp) (l : Addr) (no : List Addr) (rows : List (List V)) : Prop := ∃ qs : List Addr, H l = some (.lst (qs.map V.ref)) ∧ qs.length = rows.length ∧ (∀ q ∈ qs, q ∉ no) ∧ ∀ (i : Nat) (q : Addr) (row : List V), qs[i]? = some q → rows[i]? = some row → H q = some (.lst row)
theorem RowsX.keep {H H' : Hp} {l : Addr} {no : List Addr} {rows : List (List V)} (h : RowsX H l no rows) (hl : ∀ o, H l = some o → H' l = some o) (k : ∀ q, q ∉ no → ∀ o, H q = some o → H' q = some o) : RowsX H' l no rows := by
  obtain ⟨qs, h1, h2, h3, h4⟩ := h
  exact ⟨qs, hl _ h1, h2, h3, fun i q row e1 e2 => k q (h3 q (List.mem_of_getElem? e1)) _ (h4 i q row e1 e2)⟩
theorem RowsX.at' {H : Hp} {l : Addr} {no : List Addr} {rows : List (List V)} (h : RowsX H l no rows) : ∃ xs, H l = some (.lst xs) ∧ xs.length = rows.length ∧ ∀ (i : Nat) (row : List V), rows[i]? = some row → ∃ q, xs[i]? = some (.ref q) ∧ H q = some (.lst row) ∧ q ∉ no := by
  obtain ⟨qs, h1, h2, h3, h4⟩ := h
  refine ⟨_, h1, by rw [List.length_map]; exact h2, fun i row e => ?_⟩
  have e1 := List.getElem?_eq_getElem (show i < qs.length by rw [h2]; exact lt_of_get e)
  exact ⟨_, by rw [List.getElem?_map, e1]; rfl, h4 i _ row e1 e, h3 _ (List.mem_of_getElem? e1)⟩
theorem RowsX.put {H : Hp} {l : Addr} {no : List Addr} {rows : List (List V)} {xs : List V} {i : Nat} {p : Addr} {row : List V} (h : RowsX H l no rows) (hx : H l = some (.lst xs)) (hp : H p = some (.lst row)) (hn : p ∉ no) (hl : l ∈ no) (lt : i < rows.length) :
    RowsX (upd H l (.lst (xs.set i (.ref p)))) l no (rows.set i row) := by
  obtain ⟨qs, h1, h2, h3, h4⟩ := h
  rw [h1] at hx
  obtain rfl : qs.map V.ref = xs := by cases hx; rfl
  refine ⟨qs.set i p, by rw [upd_same, List.map_set], by rw [List.length_set, List.length_set]; exact h2, fun q m => ?_, fun j q r e1 e2 => ?_⟩
  · rcases List.mem_or_eq_of_mem_set m with m | e
    · exact h3 q m
    · rw [e]; exact hn
  · have nq : q ≠ l := fun e => by
      rcases set_at e1 with ⟨_, rfl⟩ | ⟨_, e1⟩
      · exact hn (e ▸ hl)
      · exact h3 q (List.mem_of_getElem? e1) (e ▸ hl)
    rw [upd_ne nq]
    rcases set_at e1 with ⟨rfl, rfl⟩ | ⟨ne, e1⟩
    · rcases set_at e2 with ⟨_, rfl⟩ | ⟨ne, _⟩
      · exact hp
      · exact absurd rfl ne
    · rcases set_at e2 with ⟨rfl, _⟩ | ⟨_, e2⟩
      · exact absurd rfl ne
      · exact h4 j q r e1 e2
def WI (rs : List (List Nat)) : List (List V) := rs.map VI
def WS (ts : List (List Str)) : List (List V) := ts.map fun t => t.map V.str
def roomK (p q : Addr) : List (Key × V) := [((Sum.inr "reach" : Key), V.ref p), (Sum.inr "truths", V.ref q)]
theorem RowsX.same {H H' : Hp} {l : Addr} {no : List Addr} {rows : List (List V)} (h : RowsX H l no rows) (s : Same H H') : RowsX H' l no rows := h.keep (fun _ e => s _ _ e) fun _ _ _ e => s _ _ e
/-- a room as the law holds it; none of its lists is among `no` -/
structure RoomD (H : Hp) (no : List Addr) (a : Addr) (rs : List (List Nat)) (ts : List (List Str)) : Prop where
  ex : ∃ p q, H a = some (.dK (roomK p q)) ∧ RowsX H p no (WI rs) ∧ RowsX H q no (WS ts) ∧ p ∉ no ∧ q ∉ no ∧ a ∉ no
theorem RoomD.keep {H H' : Hp} {no : List Addr} {a : Addr} {rs : List (List Nat)} {ts : List (List Str)} (h : RoomD H no a rs ts) (k : ∀ q, q ∉ no → ∀ o, H q = some o → H' q = some o) : RoomD H' no a rs ts := by
  obtain ⟨p, q, h1, h2, h3, h4, h5, h6⟩ := h.ex
  exact ⟨p, q, k _ h6 _ h1, h2.keep (k _ h4) k, h3.keep (k _ h5) k, h4, h5, h6⟩
theorem RoomD.same {H H' : Hp} {no : List Addr} {a : Addr} {rs : List (List Nat)} {ts : List (List Str)} (h : RoomD H no a rs ts) (s : Same H H') : RoomD H' no a rs ts := h.keep fun _ _ _ e => s _ _ e
theorem RoomD.ext {H H' : Hp} {d a : Addr} {rs : List (List Nat)} {ts : List (List Str)} (h : RoomD H [d] a rs ts) (s : Ext d H H') : RoomD H' [d] a rs ts := h.keep fun q n o e => s _ _ (fun z => n (by rw [z]; simp)) e
theorem RowsX.push {H : Hp} {l : Addr} {no : List Addr} {rows : List (List V)} {xs : List V} {p : Addr} {row : List V} (h : RowsX H l no rows) (hx : H l = some (.lst xs)) (hp : H p = some (.lst row)) (hn : p ∉ no) (hl : l ∈ no) :
    RowsX (upd H l (.lst (xs ++ [.ref p]))) l no (rows ++ [row]) := by
  obtain ⟨qs, h1, h2, h3, h4⟩ := h
  rw [h1] at hx
  obtain rfl : qs.map V.ref = xs := by cases hx; rfl
  refine ⟨qs ++ [p], by rw [upd_same, List.map_append]; rfl, by rw [List.length_append, List.length_append, h2]; rfl, fun q m => ?_, fun j q r e1 e2 => ?_⟩
  · rcases List.mem_append.mp m with m | m
    · exact h3 q m
    · rw [List.mem_singleton.mp m]; exact hn
  · rcases Nat.lt_or_ge j qs.length with lt | ge
    · rw [List.getElem?_append_left lt] at e1
      rw [List.getElem?_append_left (by omega)] at e2
      have nq : q ≠ l := fun e => h3 q (List.mem_of_getElem? e1) (e ▸ hl)
      rw [upd_ne nq]
      exact h4 j q r e1 e2
    · have lj := lt_of_get e1
      rw [List.length_append, List.length_singleton] at lj
      have ej : j = qs.length := by omega
      subst ej
      rw [List.getElem?_concat_length] at e1
      rw [h2, List.getElem?_concat_length] at e2
      cases e1
      cases e2
      rw [upd_ne (show p ≠ l from fun e => hn (by rw [e]; exact hl))]
      exact hp
theorem RowsX.off {H : Hp} {l m : Addr} {no : List Addr} {rows : List (List V)} {o : HO} (h : RowsX H l no rows) (ne : l ≠ m) (hm : m ∈ no) : RowsX (upd H m o) l no rows :=
  h.keep (fun _ e => (upd_ne ne).trans e) fun q hq _ e => (upd_ne (show q ≠ m from fun z => hq (by rw [z]; exact hm))).trans e
theorem RowsX.new {H : Hp} {l m : Addr} {no : List Addr} {rows : List (List V)} {o : HO} (h : RowsX H l no rows) (hm : H m = none) : RowsX (upd H m o) l no rows :=
  h.same ((Same.refl H).new hm)
theorem RowsX.weak {H : Hp} {l : Addr} {no no2 : List Addr} {rows : List (List V)} (h : RowsX H l no rows) (s : ∀ q ∈ no2, q ∈ no) : RowsX H l no2 rows := by
  obtain ⟨qs, h1, h2, h3, h4⟩ := h
  exact ⟨qs, h1, h2, fun q m z => h3 q m (s q z), h4⟩
theorem vi_map (r : List Nat) : VI r = (r.map fun n => ((n : Nat) : Int)).map V.int := by rw [List.map_map]; rfl
theorem int_row {ns : List Int} {js : List Nat} (h : ns.Perm (js.map fun n => ((n : Nat) : Int))) : ∃ r2 : List Nat, ns = r2.map (fun n => ((n : Nat) : Int)) ∧ r2.Perm js := by
  refine ⟨ns.map Int.toNat, ?_, ?_⟩
  · rw [List.map_map]
    have : ∀ x ∈ ns, ((fun n => ((n : Nat) : Int)) ∘ Int.toNat) x = x := fun x hx => by
      obtain ⟨n, _, rfl⟩ := List.mem_map.mp (h.mem_iff.mp hx)
      show ((((n : Nat) : Int).toNat : Nat) : Int) = _
      rw [Int.toNat_natCast]
    exact (List.map_congr_left this).trans (List.map_id _) |>.symm
  · have e := h.map Int.toNat
    rw [List.map_map] at e
    have id : js.map (Int.toNat ∘ fun n => ((n : Nat) : Int)) = js := (List.map_congr_left fun x _ => Int.toNat_natCast x).trans (List.map_id _)
    rw [id] at e
    exact e
theorem row_le {r : List Nat} (h : (r.map fun n => ((n : Nat) : Int)).Pairwise (· ≤ ·)) : r.Pairwise (· ≤ ·) := (List.pairwise_map.mp h).imp fun a => Int.ofNat_le.mp a
theorem get_reach {H : Hp} {a p q : Addr} (h : H a = some (.dK (roomK p q))) : DGet H a (.str "reach") (some (.ref p)) := by
  have e := DGet.k (k := Sum.inr "reach") h
  rw [show valV (roomK p q) (Sum.inr "reach") = some (.ref p) from valV_pos rfl] at e
  exact e
theorem get_truths {H : Hp} {a p q : Addr} (h : H a = some (.dK (roomK p q))) : DGet H a (.str "truths") (some (.ref q)) := by
  have e := DGet.k (k := Sum.inr "truths") h
  rw [show valV (roomK p q) (Sum.inr "truths") = some (.ref q) from (valV_neg (fun e => absurd (Sum.inr.inj e) (by decide))).trans (valV_pos rfl)] at e
  exact e
theorem room_merge (p q : Addr) : mergeK [] (roomK p q) = roomK p q := by
  have h1 : putK ([] : List (Key × V)) (Sum.inr ("reach" : Str)) (V.ref p) = [((Sum.inr ("reach" : Str) : Key), V.ref p)] := rfl
  have h2 : putK [((Sum.inr ("reach" : Str) : Key), V.ref p)] (Sum.inr ("truths" : Str)) (V.ref q) = roomK p q := by
    unfold putK
    rw [if_neg (by
      rw [List.any_cons, List.any_nil, Bool.or_false, decide_eq_true_iff]
      exact fun e => absurd (Sum.inr.inj e) (by decide))]
    rfl
  show putK (putK ([] : List (Key × V)) (Sum.inr ("reach" : Str)) (V.ref p)) (Sum.inr ("truths" : Str)) (V.ref q) = _
  rw [h1, h2]
theorem str_flat (ws : List Str) : (ws.map V.str).all flatV = true := by
  rw [List.all_map, List.all_eq_true]
  intro n _
  rfl
theorem inV_strs (x : Str) : ∀ ws : List Str, inV (.str x) (ws.map V.str) = decide (x ∈ ws)
  | [] => rfl
  | y :: r => by
    have e : inV (.str x) ((y :: r).map V.str) = (eqV (.str y) (.str x) || inV (.str x) (r.map V.str)) := rfl
    rw [e, inV_strs x r]
    show ((y == x) || decide (x ∈ r)) = _
    by_cases h : x = y
    · subst h
      simp
    · rw [beq_eq_false_iff_ne.mpr (Ne.symm h), Bool.false_or]
      simp [h]
theorem shaped_I (r : List Nat) : SeqAt.shaped (.list (r.map fun n => PyData.int (n : Nat))) = true := by
  unfold SeqAt.shaped
  rw [PyData.canLay0, lay_I, Bool.true_and, PyData.depth]
  refine decide_eq_true ?_
  have : PyData.depthAll (r.map fun n => PyData.int (n : Nat)) ≤ 0 := by
    have e : (r.map fun n => PyData.int (n : Nat)) = (r.map fun n => ((n : Nat) : Int)).map PySem.W.Datum.toD := by rw [List.map_map]; rfl
    rw [e]
    exact PySem.W.depthAll_map _
  omega
theorem eqv_nil (r : List Nat) : PyData.eqv (.list (r.map fun n => PyData.int (n : Nat))) (.list []) = decide (r = []) := by
  cases r with
  | nil => simp [PyData.eqv, PyData.eqvAll]
  | cons _ _ => simp [PyData.eqv, PyData.eqvAll]
theorem ix_nat {n k : Nat} (h : k < n) : ixN n ((k : Nat) : Int) = some k := by
  unfold ixN
  rw [if_pos (by omega), if_pos (by omega), Int.toNat_natCast]
def natOf : V → Nat
  | .int i => i.toNat
  | _ => 0
theorem v_row {ys : List V} {js : List Nat} (h : ys.Perm (VI js)) : ∃ r2 : List Nat, ys = VI r2 ∧ r2.Perm js := by
  refine ⟨ys.map natOf, ?_, ?_⟩
  · unfold VI
    rw [List.map_map]
    have : ∀ x ∈ ys, ((fun n => V.int ((n : Nat) : Int)) ∘ natOf) x = x := fun x hx => by
      obtain ⟨n, _, rfl⟩ := List.mem_map.mp (h.mem_iff.mp hx)
      show V.int ((((n : Nat) : Int).toNat : Nat) : Int) = _
      rw [Int.toNat_natCast]
    exact ((List.map_congr_left this).trans (List.map_id _)).symm
  · have e := h.map natOf
    unfold VI at e
    rw [List.map_map] at e
    have id : js.map (natOf ∘ fun n => V.int ((n : Nat) : Int)) = js := (List.map_congr_left fun x _ => Int.toNat_natCast x).trans (List.map_id _)
    rw [id] at e
    exact e
theorem rg_vi (n : Nat) : rgV 0 (n : Int) = VI (List.range n) := by
  unfold rgV VI
  rw [show ((n : Int) - 0).toNat = n by omega]
  refine List.map_congr_left fun i _ => ?_
  show V.int (0 + (i : Int)) = _
  rw [Int.zero_add]
theorem int_asc {ns : List Int} {row : List Nat} (pw : ns.Pairwise (· < ·)) (mem : ∀ k : Int, k ∈ ns ↔ k ∈ row.map fun n => ((n : Nat) : Int)) : ∃ s : List Nat, ns = s.map (fun n => ((n : Nat) : Int)) ∧ s.Pairwise (· < ·) ∧ ∀ x, x ∈ s ↔ x ∈ row := by
  have e : ns = (ns.map Int.toNat).map (fun n => ((n : Nat) : Int)) := by
    rw [List.map_map]
    have : ∀ x ∈ ns, ((fun n => ((n : Nat) : Int)) ∘ Int.toNat) x = x := fun x hx => by
      obtain ⟨n, _, rfl⟩ := List.mem_map.mp ((mem x).mp hx)
      show ((((n : Nat) : Int).toNat : Nat) : Int) = _
      rw [Int.toNat_natCast]
    exact ((List.map_congr_left this).trans (List.map_id _)).symm
  refine ⟨ns.map Int.toNat, e, ?_, fun x => ?_⟩
  · rw [e] at pw
    exact (List.pairwise_map.mp pw).imp fun a => Int.ofNat_lt.mp a
  · have z := mem (x : Int)
    constructor
    · intro m
      obtain ⟨k, hk, rfl⟩ := List.mem_map.mp m
      obtain ⟨n, hn, rfl⟩ := List.mem_map.mp ((mem k).mp hk)
      rw [Int.toNat_natCast]
      exact hn
    · intro m
      exact List.mem_map.mpr ⟨(x : Int), z.mpr (List.mem_map.mpr ⟨x, m, rfl⟩), Int.toNat_natCast x⟩
theorem eqv_ints (r s : List Nat) : PyData.eqv (.list (r.map fun n => PyData.int (n : Nat))) (.list (s.map fun n => PyData.int (n : Nat))) = decide (r = s) := by
  have e : ∀ t : List Nat, PyData.list (t.map fun n => PyData.int (n : Nat)) = PySem.W.Datum.toD (t.map fun n => ((n : Nat) : Int)) := fun t => by
    show _ = PyData.list ((t.map fun n => ((n : Nat) : Int)).map PySem.W.Datum.toD)
    rw [List.map_map]
    rfl
  rw [e r, e s, PySem.W.Datum.eqv]
  exact decide_eq_decide.mpr ⟨cast_inj, fun h => by rw [h]⟩
theorem eqv_strs (r s : List Str) : PyData.eqv (.list (r.map PyData.str)) (.list (s.map PyData.str)) = decide (r = s) := PySem.W.Datum.eqv r s
theorem eqv_nilS (r : List Str) : PyData.eqv (.list (r.map PyData.str)) (.list []) = decide (r = []) := by
  cases r with
  | nil => simp [PyData.eqv, PyData.eqvAll]
  | cons _ _ => simp [PyData.eqv, PyData.eqvAll]
theorem shaped_S {t : List Str} (h : ∀ x ∈ t, ∀ c ∈ x.cps.toList, c < 128) : SeqAt.shaped (.list (t.map PyData.str)) = true := by
  unfold SeqAt.shaped
  rw [PyData.canLay0, lay_S h, Bool.true_and]
  exact decide_eq_true (Nat.le_trans (PySem.W.Datum.depth_le t) (by decide))
theorem isW_ascii {x : Str} (h : isW (.str x) = true) : x.length ≤ 8 ∧ ∀ c ∈ x.cps.toList, c < 128 := by
  rw [isW_str] at h
  obtain ⟨h1, h2⟩ := Bool.and_eq_true_iff.mp h
  refine ⟨of_decide_eq_true (Bool.and_eq_true_iff.mp h1).2, fun c hc => ?_⟩
  have z := List.all_eq_true.mp h2 c hc
  have := of_decide_eq_true (Bool.and_eq_true_iff.mp z).2
  omega


end My
namespace My
open PySem PySem.Spec PyProof.Rows L2 TL
set_option pp.maxSteps 3000
set_option pp.deepTerms false
/-! ### the law: a room turned, a room drawn -/
def sp__law_room_turned (K : PySem.W.Frag) : Sp := fun vs H Q _ => ∃ (o p q : Addr) (ord : List Nat) (rs : List (List Nat)) (ts : List (List Str)) (no1 no2 : List Addr), vs = [.ref o, .ref p, .ref q] ∧ H o = some (.lst (VI ord)) ∧ RowsX H p no1 (WI rs) ∧ RowsX H q no2 (WS ts) ∧ ts.length = rs.length ∧ rs.length ≤ 5 ∧ (∀ row ∈ rs, row.length ≤ 60 ∧ ∀ n ∈ row, n < rs.length) ∧ (∀ t ∈ ts, t.length ≤ 60) ∧ ord.Perm (List.range rs.length) ∧
  ∃ no : List Addr, (∀ b ∈ no, H b ≠ none) ∧ ∀ a rs2 ts2 H', Same H H' → TurnP rs ts ord rs2 ts2 → RoomD H' no a rs2 ts2 → Q (.ref a) H'
section
variable {P : Program} {w : World} {K : PySem.W.Frag} {mg : Str → Option Value} {base : Heap} {C_Room : Addr}
theorem ok__law_room_turned (T : Txt K mg C_Room) {f : Addr} {fd : FuncData} (F : Fun K "_law_room_turned" "_law_room_turned" s__law_room_turned f fd) : FnOkG P w K mg base CX0 1 f fd ["_law_order", "_law_reach", "_law_truths"] (sp__law_room_turned K) := by
  have nd := sc__law_room_turned.nd
  refine F.okG sc__law_room_turned (fun vs H Q E h => ?_) (fun cdv A outer s H vs Q E hr hG h => ?_)
  · obtain ⟨o, p, q, ord, rs, ts, no1, no2, rfl, _⟩ := h
    rfl
  · obtain ⟨o, p, q', ord, rs, ts, no1, no2, rfl, ho, hp, hq, lt, l5, low, tl, pm, no, hno, q⟩ := h
    refine ⟨_, (pss_cons (ps_set (i := 3) nd rfl (.inl rfl) (pe_disp (pps_cons pe_str (pe_lst pa_nil) (pps_cons pe_str (pe_lst pa_nil) pps_nil)) (by rfl) (by rfl) (fun z => by cases z) (by decide)))
      (pss_cons (ps_for PassesOwn.never rfl (pi_list (pv 0)) (pg_name (i := 4) nd rfl (.inl rfl)) (pss_cons (ps_expr (pe_bm PySem.F.plainAttrs_list PySem.F.slot_list_append PySem.F.type_list_append mt_append (pe_dget (by first | exact Nat.lt_of_le_of_lt (Nat.add_le_add_left (by decide : 1 ≤ 64) _) hr.units | exact Nat.lt_of_le_of_lt (Nat.add_le_add_left (by decide : 4 ≤ 64) _) hr.units | exact Nat.lt_of_le_of_lt (Nat.add_le_add_left (by decide : 7 ≤ 64) _) hr.units) (pv 3) pe_str (fun _ _ => rfl)) (pa_cons (pe_callB cr_sorted (by rfl) T.b_sorted (by decide +kernel) (pa_cons (pe_lcD (own := [("_law_one", 5)]) (by rfl) nd (pi_list (pe_ix ix_list (pv 1) (pv 4) (fun _ _ => rfl))) (blkOk_by (own := [("_law_one", 5)]) (N := ["_law_order", "_law_reach", "_law_truths", "_law_found", "_law_world", "_law_one"]) (sc := (defScope s__law_room_turned)) (by decide +kernel)) (fun _ _ _ _ _ => pg_name (i := 5) nd rfl (Or.inl rfl)) (fun _ _ _ _ _ => pts_nil) (fun _ _ _ _ _ => (pe_bm PySem.F.plainAttrs_list PySem.F.slot_list_index PySem.F.type_list_index mt_index (pv 0) (pa_cons (pv 5) pa_nil)))) pa_nil)) pa_nil)))
      (pss_one (ps_expr (pe_bm PySem.F.plainAttrs_list PySem.F.slot_list_append PySem.F.type_list_append mt_append (pe_dget (by first | exact Nat.lt_of_le_of_lt (Nat.add_le_add_left (by decide : 1 ≤ 64) _) hr.units | exact Nat.lt_of_le_of_lt (Nat.add_le_add_left (by decide : 4 ≤ 64) _) hr.units | exact Nat.lt_of_le_of_lt (Nat.add_le_add_left (by decide : 7 ≤ 64) _) hr.units) (pv 3) pe_str (fun _ _ => rfl)) (pa_cons (pe_callTy call_list_of (by rfl) T.b_list (by decide +kernel) (pa_cons (pe_ix ix_list (pv 2) (pv 4) (fun _ _ => rfl)) pa_nil)) pa_nil))))))
      (pss_one (ps_ret (pv 3))))), ?_⟩
    have nd1 : ord.Nodup := pm.nodup_iff.mpr List.nodup_range
    have lo : ord.length = rs.length := by rw [pm.length_eq, List.length_range]
    refine fun a ha => ⟨Nat.zero_le _, fun l1 hl1 => ⟨Nat.zero_le _, fun l2 hl2 => ?_⟩⟩
    have na1 : a ≠ l1 := ne_of_none (upd_same (H := H) (o := .dK [])) hl1
    have fa1 : upd (upd H a (.dK [])) l1 (.lst []) a = some (.dK []) := (upd_ne na1).trans upd_same
    have na2 : a ≠ l2 := ne_of_none fa1 hl2
    have f11 : upd (upd H a (.dK [])) l1 (.lst []) l1 = some (.lst []) := upd_same
    have n12 : l1 ≠ l2 := ne_of_none f11 hl2
    have fa2 : upd (upd (upd H a (.dK [])) l1 (.lst [])) l2 (.lst []) a = some (.dK []) := (upd_ne na2).trans fa1
    have f12 : upd (upd (upd H a (.dK [])) l1 (.lst [])) l2 (.lst []) l1 = some (.lst []) := (upd_ne n12).trans f11
    have f22 : upd (upd (upd H a (.dK [])) l1 (.lst [])) l2 (.lst []) l2 = some (.lst []) := upd_same
    have s2 : Same H (upd (upd (upd H a (.dK [])) l1 (.lst [])) l2 (.lst [])) := (((Same.refl H).new ha).new hl1).new hl2
    have hl1' : H l1 = none := by
      have z := hl1
      rw [upd_ne na1.symm] at z
      exact z
    have hl2' : H l2 = none := by
      rw [upd_ne n12.symm, upd_ne na2.symm] at hl2
      exact hl2
    generalize upd (upd (upd H a (.dK [])) l1 (.lst [])) l2 (.lst []) = G at fa2 f12 f22 s2 ⊢
    refine ⟨fa2, roomK l1 l2, rfl, by show 2 ≤ 15; decide, asg_go2 ?_⟩
    rw [room_merge]
    dsimp only [List.set]
    have ga : upd G a (.dK (roomK l1 l2)) a = some (.dK (roomK l1 l2)) := upd_same
    have g1 : RowsX (upd G a (.dK (roomK l1 l2))) l1 ([a, l1, l2] ++ no) (WI []) := ⟨[], (upd_ne na1.symm).trans f12, rfl, (fun q m => nomatch m), fun i q row e => nomatch e⟩
    have g2 : RowsX (upd G a (.dK (roomK l1 l2))) l2 ([a, l1, l2] ++ no) (WS []) := ⟨[], (upd_ne na2.symm).trans f22, rfl, (fun q m => nomatch m), fun i q row e => nomatch e⟩
    have sg : Same H (upd G a (.dK (roomK l1 l2))) := s2.mut ha
    generalize upd G a (.dK (roomK l1 l2)) = G2 at ga g1 g2 sg ⊢
    refine ⟨.ref o, rfl, o, rfl, ⟨_, SqL.of (sg _ _ ho)⟩, for_list (xs := VI ord) (fun i σ' H' => (∃ s4 s5, σ' = [some (.ref o), some (.ref p), some (.ref q'), some (.ref a), s4, s5]) ∧ (H' a = some (.dK (roomK l1 l2)) ∧ ∃ r2s t2s, RowsX H' l1 ([a, l1, l2] ++ no) (WI r2s) ∧ RowsX H' l2 ([a, l1, l2] ++ no) (WS t2s) ∧ r2s.length = i ∧ t2s.length = i ∧
      (∀ (k w : Nat), k < i → ord[k]? = some w → ∃ row r2 js, rs[w]? = some row ∧ r2s[k]? = some r2 ∧ js.length = row.length ∧ (∀ (i o j : Nat), row[i]? = some o → js[i]? = some j → ord[j]? = some o) ∧ r2.Perm js ∧ r2.Pairwise (· ≤ ·)) ∧ ∀ (k w : Nat), k < i → ord[k]? = some w → t2s[k]? = ts[w]?) ∧ Same H H')
      ⟨⟨_, _, rfl⟩, ⟨ga, [], [], g1, g2, rfl, rfl, (fun k w h => nomatch h), fun k w h => nomatch h⟩, sg⟩ (fun i σ' H' _ hP => SqL.of (hP.2.2 _ _ ho)) (fun i x σ' H' hx hP => ?_) (fun σ' H' hP => ?_)⟩
    · obtain ⟨⟨s4, s5, rfl⟩, ⟨ga, r2s, t2s, g1, g2, e1, e2, f1, f2⟩, s3⟩ := hP
      obtain ⟨w, ew, rfl⟩ := vi_at hx
      have li := lt_of_get ew
      have lw : w < rs.length := List.mem_range.mp (pm.mem_iff.mp (List.mem_of_getElem? ew))
      have er := List.getElem?_eq_getElem lw
      have et := List.getElem?_eq_getElem (show w < ts.length by omega)
      generalize rs[w] = row at er
      generalize ts[w]'(show w < ts.length by omega) = tw at et
      obtain ⟨x1, hx1, lx1, at1⟩ := (hp.same s3).at'
      obtain ⟨q1, y1, z1, _⟩ := at1 w (VI row) (by unfold WI; rw [List.getElem?_map, er]; rfl)
      obtain ⟨x2, hx2, lx2, at2⟩ := (hq.same s3).at'
      obtain ⟨q2, y2, z2, _⟩ := at2 w (tw.map V.str) (by unfold WS; rw [List.getElem?_map, et]; rfl)
      obtain ⟨xa, ha1, la1, _⟩ := g1.at'
      obtain ⟨lrow, brow⟩ := low row (List.mem_of_getElem? er)
      have here : ∀ n ∈ row, ∃ j : Nat, ord[j]? = some n := fun n hn => List.mem_iff_getElem?.mp (pm.mem_iff.mpr (List.mem_range.mpr (brow n hn)))
      refine ⟨.ref a, rfl, a, .ref l1, rfl, get_reach ga, .inl ⟨rfl, _, SqL.of ha1⟩, ?_⟩
      refine ⟨.ref p, rfl, .int (w : Nat), rfl, p, x1, (w : Nat), .ref q1, rfl, rfl, SqL.of hx1, atI_nat y1, q1, rfl, ⟨_, SqL.of z1⟩, fun D hD => lc_list (xs := VI row) (fun k H2 => (∃ js : List Nat, H2 D = some (.lst (VI js)) ∧ js.length = k ∧ ∀ (i o j : Nat), row[i]? = some o → js[i]? = some j → ord[j]? = some o) ∧ Same H' H2) ⟨⟨[], upd_same, rfl, fun i o j _ e => nomatch e⟩, (Same.refl H').mut hD⟩ (fun k H2 _ hP => SqL.of (hP.2 _ _ z1)) (fun k y H2 hy hP => ?_) (fun H2 hP => ?_)⟩
      · obtain ⟨⟨js, hD2, lj, aj⟩, s4⟩ := hP
        obtain ⟨n, en, rfl⟩ := vi_at hy
        have lk := lt_of_get en
        obtain ⟨j, ej⟩ := here n (List.mem_of_getElem? en)
        refine ⟨rfl, tyes ?_⟩
        refine ⟨.ref o, rfl, .inl ⟨rfl, _, SqL.of (s4 _ _ (s3 _ _ ho))⟩, .int (n : Nat), rfl, o, VI ord, .int (n : Nat), j, .int (n : Nat), rfl, rfl, SqL.of (s4 _ _ (s3 _ _ ho)), rfl, vi_flat ord, getE ej rfl, ?_, fun m z hm hz => ?_, ?_⟩
        · show (((n : Nat) : Int) == ((n : Nat) : Int)) = true
          exact beq_self_eq_true _
        · obtain ⟨u, eu, rfl⟩ := vi_at hz
          show (((u : Nat) : Int) == ((n : Nat) : Int)) = false
          refine beq_eq_false_iff_ne.mpr fun e => ?_
          have e : u = n := by omega
          subst e
          have := nodup_at nd1 eu ej
          omega
        · refine ⟨_, hD2, lt_line' (by rw [vi_len]; omega), ⟨js ++ [j], by rw [upd_same]; unfold VI; rw [List.map_append]; rfl, by rw [List.length_append, lj]; rfl, fun i2 o2 j2 h1 h2 => ?_⟩, s4.mut hD⟩
          rcases Nat.lt_or_ge i2 js.length with lt | ge
          · rw [List.getElem?_append_left lt] at h2
            exact aj i2 o2 j2 h1 h2
          · have l2 := lt_of_get h2
            rw [List.length_append, List.length_singleton] at l2
            have e : i2 = js.length := by omega
            subst e
            rw [List.getElem?_concat_length] at h2
            cases h2
            rw [lj, en] at h1
            cases h1
            exact ej
      · obtain ⟨⟨js, hD2, lj, aj⟩, s4⟩ := hP
        rw [vi_len] at lj
        rw [vi_map] at hD2
        refine ⟨D, _, rfl, SqL.of hD2, by rw [List.length_map]; omega, fun ns' pn pmn pwn hpn => ?_⟩
        obtain ⟨r2, rfl, pm2⟩ := int_row pmn
        have le2 := row_le pwn
        rw [← vi_map]
        have s5 := s4.new (o := .lst (VI r2)) hpn
        have hpn2 : upd H2 pn (.lst (VI r2)) pn = some (.lst (VI r2)) := upd_same
        generalize upd H2 pn (.lst (VI r2)) = G3 at s5 hpn2 ⊢
        have k1 : ∀ {b o}, H' b = some o → b ≠ pn := fun {b o} h e => by rw [← e] at hpn; rw [s4 _ _ h] at hpn; cases hpn
        have no1 : pn ∉ ([a, l1, l2] ++ no) := fun m => by
          obtain ⟨_, hl2e, _, _⟩ := g2.at'
          rcases List.mem_append.mp m with m | m
          case inr =>
            have z := hno pn m
            cases e : H pn with
            | none => exact z e
            | some o => exact k1 (s3 _ _ e) rfl
          rcases List.mem_cons.mp m with e | m
          · exact k1 ga e.symm
          · rcases List.mem_cons.mp m with e | m
            · exact k1 ha1 e.symm
            · exact k1 hl2e (List.mem_singleton.mp m).symm
        refine ⟨l1, _, _, rfl, rfl, s5 _ _ ha1, lt_line' ?_, ?_⟩
        · have z := la1
          unfold WI at z
          rw [List.length_map] at z
          omega
        have g1b := (g1.same s5).push (s5 _ _ ha1) hpn2 no1 (by simp)
        have g2b := (g2.same s5).off (o := .lst (xa ++ [.ref pn])) n12.symm (show l1 ∈ ([a, l1, l2] ++ no) by simp)
        have gab := (upd_ne (o := .lst (xa ++ [.ref pn])) na1).trans (s5 _ _ ga)
        have s6 : Same H (upd G3 l1 (.lst (xa ++ [.ref pn]))) := (s3.trans s5).mut hl1'
        generalize upd G3 l1 (.lst (xa ++ [.ref pn])) = G4 at g1b g2b gab s6 ⊢
        dsimp only
        obtain ⟨x3, hx3, lx3, at3⟩ := (hq.same s6).at'
        obtain ⟨q3, y3, z3, _⟩ := at3 w (tw.map V.str) (by unfold WS; rw [List.getElem?_map, et]; rfl)
        obtain ⟨xb, hb1, lb1, _⟩ := g2b.at'
        refine ⟨.ref a, rfl, a, .ref l2, rfl, get_truths gab, .inl ⟨rfl, _, SqL.of hb1⟩, ?_⟩
        refine ⟨.ref q', rfl, .int (w : Nat), rfl, q', x3, (w : Nat), .ref q3, rfl, rfl, SqL.of hx3, atI_nat y3, q3, _, rfl, .inl (SqL.of z3), fun pt hpt => ?_⟩
        have hpt2 : upd G4 pt (.lst (tw.map V.str)) pt = some (.lst (tw.map V.str)) := upd_same
        have no2 : pt ∉ ([a, l1, l2] ++ no) := fun m => by
          obtain ⟨_, hl1e, _, _⟩ := g1b.at'
          rcases List.mem_append.mp m with m | m
          case inr =>
            have z := hno pt m
            cases e : H pt with
            | none => exact z e
            | some o => rw [s6 _ _ e] at hpt; cases hpt
          rcases List.mem_cons.mp m with e | m
          · rw [e, gab] at hpt; cases hpt
          · rcases List.mem_cons.mp m with e | m
            · rw [e, hl1e] at hpt; cases hpt
            · rw [List.mem_singleton.mp m, hb1] at hpt; cases hpt
        have g1c := g1b.new (o := .lst (tw.map V.str)) hpt
        have g2c := g2b.new (o := .lst (tw.map V.str)) hpt
        have gac := (upd_ne (o := .lst (tw.map V.str)) (ne_of_none gab hpt)).trans gab
        have hb2 := (upd_ne (o := .lst (tw.map V.str)) (ne_of_none hb1 hpt)).trans hb1
        have s7 := s6.new (o := .lst (tw.map V.str)) hpt
        generalize upd G4 pt (.lst (tw.map V.str)) = G5 at g1c g2c gac hb2 hpt2 s7 ⊢
        refine ⟨l2, _, _, rfl, rfl, hb2, lt_line' ?_, ?_⟩
        · have z := lb1
          unfold WS at z
          rw [List.length_map] at z
          omega
        have g2d := g2c.push hb2 hpt2 no2 (by simp)
        have g1d := g1c.off (o := .lst (xb ++ [.ref pt])) n12 (show l2 ∈ ([a, l1, l2] ++ no) by simp)
        have gad := (upd_ne (o := .lst (xb ++ [.ref pt])) na2).trans gac
        have s8 := s7.mut (o := .lst (xb ++ [.ref pt])) hl2'
        generalize upd G5 l2 (.lst (xb ++ [.ref pt])) = G6 at g1d g2d gad s8 ⊢
        have w1 : WI r2s ++ [VI r2] = WI (r2s ++ [r2]) := by unfold WI; rw [List.map_append]; rfl
        have w2 : WS t2s ++ [tw.map V.str] = WS (t2s ++ [tw]) := by unfold WS; rw [List.map_append]; rfl
        rw [w1] at g1d
        rw [w2] at g2d
        refine ⟨⟨_, _, rfl⟩, ⟨gad, r2s ++ [r2], t2s ++ [tw], g1d, g2d, by rw [List.length_append, e1]; rfl, by rw [List.length_append, e2]; rfl, fun k u hk hu => ?_, fun k u hk hu => ?_⟩, s8⟩
        · rcases Nat.lt_or_ge k i with lt | ge
          · obtain ⟨row', r2', js', h1, h2, h3⟩ := f1 k u lt hu
            exact ⟨row', r2', js', h1, by rw [List.getElem?_append_left (by omega)]; exact h2, h3⟩
          · obtain rfl : k = i := by omega
            rw [ew] at hu
            obtain rfl := Option.some.inj hu
            exact ⟨row, r2, js, er, by rw [← e1, List.getElem?_concat_length], lj, aj, pm2, le2⟩
        · rcases Nat.lt_or_ge k i with lt | ge
          · rw [List.getElem?_append_left (by omega)]
            exact f2 k u lt hu
          · obtain rfl : k = i := by omega
            rw [ew] at hu
            obtain rfl := Option.some.inj hu
            rw [← e2, List.getElem?_concat_length, et]
    · obtain ⟨⟨s4, s5, rfl⟩, ⟨ga, r2s, t2s, g1, g2, e1, e2, f1, f2⟩, s3⟩ := hP
      rw [vi_len] at e1 e2 f1 f2
      exact ⟨.ref a, rfl, q a r2s t2s H' s3 ⟨e1, e2, fun k w e => f1 k w (lt_of_get e) e, fun k w e => f2 k w (lt_of_get e) e⟩ ⟨l1, l2, ga, g1.weak (fun _ z => List.mem_append_right _ z), g2.weak (fun _ z => List.mem_append_right _ z), fun z => hno _ z hl1', fun z => hno _ z hl2', fun z => hno _ z ha⟩⟩
end

def sp__law_room (K : PySem.W.Frag) : Sp := fun vs H Q _ => ∃ (d l : Addr) (as : List Str), vs = [.ref d, .ref l] ∧ IsDice H d ∧ H l = some (.lst (as.map V.str)) ∧ l ≠ d ∧ as.length ≤ 3 ∧ as.Nodup ∧ (∀ x ∈ as, isW (.str x) = true) ∧
  ∀ a rs ts H', Ext d H H' → IsDice H' d → RoomD H' [d] a rs ts → OrdP rs → TruP rs ts → rs.length ≤ 5 → (∀ t ∈ ts, ∀ x ∈ t, x ∈ as) → Q (.ref a) H'
section
variable {P : Program} {w : World} {K : PySem.W.Frag} {mg : Str → Option Value} {base : Heap} {C_Room : Addr}
theorem ok__law_room (T : Txt K mg C_Room) (c__law_room_turned : Cal P w K mg base "_law_room_turned" 1 ["_law_order", "_law_reach", "_law_truths"] (sp__law_room_turned K)) (c__law_roll : Cal P w K mg base "_law_roll" 1 ["_law_dice_here", "_law_total"] (sp__law_roll K)) (c__law_some : Cal P w K mg base "_law_some" 2 ["_law_dice_here", "_law_items", "_law_size"] (sp__law_some4 K)) {f : Addr} {fd : FuncData} (F : Fun K "_law_room" "_law_room" s__law_room f fd) : FnOkG P w K mg base CX0 3 f fd ["_law_dice_here", "_law_atoms"] (sp__law_room K) := by
  have nd := sc__law_room.nd
  refine F.okG sc__law_room (fun vs H Q E h => ?_) (fun cdv A outer s H vs Q E hr hG h => ?_)
  · obtain ⟨d, l, as, rfl, _⟩ := h
    rfl
  · obtain ⟨d, l, as, rfl, hd, hl, nl, few, asn, wd, q⟩ := h
    refine ⟨_, (pss_cons (ps_set (i := 2) nd rfl (.inl rfl) (pe_op op_add pe_int (pe_callC c__law_roll (hr.mono (by first | decide | omega)) hG rfl (pa_cons (pv 0) (pa_cons pe_int pa_nil)))))
      (pss_cons (ps_asg (pe_tup (pa_cons (pe_lcD (own := [("_law_world", 5)]) (by rfl) nd (pi_range1 (by rfl) T.b_range (pa_cons (pv 2) pa_nil)) (blkOk_by (own := [("_law_world", 5)]) (N := ["_law_dice_here", "_law_atoms", "_law_size", "_law_reach", "_law_truths", "_law_world", "_law_found", "_law_other", "_law_above", "_law_let", "_law_one", "_law_atom"]) (sc := (defScope s__law_room)) (by decide +kernel)) (fun _ _ _ _ _ => pg_name (i := 5) nd rfl (Or.inl rfl)) (fun _ _ _ _ _ => pts_nil) (fun _ _ _ _ _ => (pe_lst pa_nil))) (pa_cons (pe_lcD (own := [("_law_world", 5)]) (by rfl) nd (pi_range1 (by rfl) T.b_range (pa_cons (pv 2) pa_nil)) (blkOk_by (own := [("_law_world", 5)]) (N := ["_law_dice_here", "_law_atoms", "_law_size", "_law_reach", "_law_truths", "_law_world", "_law_found", "_law_other", "_law_above", "_law_let", "_law_one", "_law_atom"]) (sc := (defScope s__law_room)) (by decide +kernel)) (fun _ _ _ _ _ => pg_name (i := 5) nd rfl (Or.inl rfl)) (fun _ _ _ _ _ => pts_nil) (fun _ _ _ _ _ => (pe_lst pa_nil))) pa_nil))) (pg_tup (by rfl) (pgs_cons (pg_name (i := 3) nd rfl (.inl rfl)) (pgs_cons (pg_name (i := 4) nd rfl (.inr rfl)) pgs_nil))))
      (pss_cons (ps_for PassesOwn.never rfl (pi_range3 (by rfl) T.b_range (pa_cons (pe_op op_sub (pv 2) pe_int) (pa_cons (pe_un un_neg pe_int) (pa_cons (pe_un un_neg pe_int) pa_nil)))) (pg_name (i := 5) nd rfl (.inr rfl)) (pss_cons (ps_set (i := 6) nd rfl (.inr rfl) (pe_lst (pa_cons (pv 5) pa_nil)))
      (pss_cons (ps_for PassesOwn.never rfl (pi_range2 (by rfl) T.b_range (pa_cons (pe_op op_add (pv 5) pe_int) (pa_cons (pv 2) pa_nil))) (pg_name (i := 7) nd rfl (.inl rfl)) (pss_one (ps_if (pt_cmpR op_eq (pe_callC c__law_roll (hr.mono (by first | decide | omega)) hG rfl (pa_cons (pv 0) (pa_cons pe_int pa_nil))) pe_int (nomark _)) (pss_one (ps_set (i := 6) nd rfl (.inr rfl) (pe_op op_cat (pv 6) (pe_lcD (own := [("_law_one", 10)]) (by rfl) nd (pi_list (pe_ix ix_list (pv 3) (pv 7) (fun _ _ => rfl))) (blkOk_by (own := [("_law_one", 10)]) (N := ["_law_dice_here", "_law_atoms", "_law_size", "_law_reach", "_law_truths", "_law_world", "_law_found", "_law_other", "_law_above", "_law_let", "_law_one", "_law_atom"]) (sc := (defScope s__law_room)) (by decide +kernel)) (fun _ _ _ _ _ => pg_name (i := 10) nd rfl (Or.inl rfl)) (fun _ _ _ _ _ => pts_one (pt_cmpR op_notIn_seq (pv 10) (pv 6) (by rfl))) (fun _ _ _ _ _ => (pv 10)))))) pss_nil)))
      (pss_cons (ps_asg (pe_callB cr_sorted (by rfl) T.b_sorted (by decide +kernel) (pa_cons (pv 6) pa_nil)) (pg_sub (pv 3) (pv 5) set_list))
      (pss_cons (ps_set (i := 8) nd rfl (.inr rfl) (pe_lcD (own := [("_law_one", 10)]) (by rfl) nd (pi_list (pe_ix ix_list (pv 3) (pv 5) (fun _ _ => rfl))) (blkOk_by (own := [("_law_one", 10)]) (N := ["_law_dice_here", "_law_atoms", "_law_size", "_law_reach", "_law_truths", "_law_world", "_law_found", "_law_other", "_law_above", "_law_let", "_law_one", "_law_atom"]) (sc := (defScope s__law_room)) (by decide +kernel)) (fun _ _ _ _ _ => pg_name (i := 10) nd rfl (Or.inl rfl)) (fun _ _ _ _ _ => pts_one (pt_cmpR op_ne (pv 10) (pv 5) (nomark _))) (fun _ _ _ _ _ => (pv 10))))
      (pss_cons (ps_setLcD (i := 9) (own := [("_law_atom", 11)]) (by rfl) nd rfl rfl (sw_true rfl rfl rfl (by decide +kernel)) (pi_list (pv 1)) (blkOk_by (own := [("_law_atom", 11)]) (N := ["_law_dice_here", "_law_atoms", "_law_size", "_law_reach", "_law_truths", "_law_world", "_law_found", "_law_other", "_law_above", "_law_let", "_law_one", "_law_atom"]) (sc := (defScope s__law_room)) (by decide +kernel)) (fun _ _ _ _ _ => pg_name (i := 11) nd rfl (Or.inr rfl)) (fun _ _ _ _ _ => pts_one (pt_cmpR (op_eqD hr.units) (pe_lcD (own := [("_law_one", 10)]) (by rfl) nd (pi_list (pv 8)) (blkOk_by (own := [("_law_one", 10)]) (N := ["_law_dice_here", "_law_atoms", "_law_size", "_law_reach", "_law_truths", "_law_world", "_law_found", "_law_other", "_law_above", "_law_let", "_law_one", "_law_atom"]) (sc := { kind := .function, names := [(".0", .local), ("_law_atom", .cell), ("_law_above", .cell), ("_law_truths", .cell)], isGenerator := false, isCoroutine := false, more := [] }) (by decide +kernel)) (fun _ _ _ _ _ => pg_name (i := 10) nd rfl (Or.inl rfl)) (fun _ _ _ _ _ => pts_one (pt_cmpR op_notIn_seq (pv 11) (pe_ix ix_list (pv 4) (pv 10) (fun _ _ => rfl)) (by rfl))) (fun _ _ _ _ _ => (pv 10))) (pe_lst pa_nil) (nomark _))) (fun _ _ _ _ _ => (pv 11)))
      (pss_one (ps_asg (pe_callB cr_sortedS (by rfl) T.b_sorted (by decide +kernel) (pa_cons (pe_lcD (own := [("_law_atom", 11)]) (by rfl) nd (pi_list (pv 9)) (blkOk_by (own := [("_law_atom", 11)]) (N := ["_law_dice_here", "_law_atoms", "_law_size", "_law_reach", "_law_truths", "_law_world", "_law_found", "_law_other", "_law_above", "_law_let", "_law_one", "_law_atom"]) (sc := (defScope s__law_room)) (by decide +kernel)) (fun _ _ _ _ _ => pg_name (i := 11) nd rfl (Or.inl rfl)) (fun _ _ _ _ _ => pts_one (pt_cmpR op_gt (pe_callC c__law_roll (hr.mono (by first | decide | omega)) hG rfl (pa_cons (pv 0) (pa_cons pe_int pa_nil))) pe_int (nomark _))) (fun _ _ _ _ _ => (pv 11))) pa_nil)) (pg_sub (pv 4) (pv 5) set_list)))))))))
      (pss_one (ps_ret (pe_callC c__law_room_turned (hr.mono (by first | decide | omega)) hG rfl (pa_cons (pe_callC c__law_some (hr.mono (by first | decide | omega)) hG rfl (pa_cons (pv 0) (pa_cons (pe_listRg rfl (by rfl) T.b_list (prg_1 (by rfl) T.b_range (pv 2))) (pa_cons (pv 2) pa_nil)))) (pa_cons (pv 3) (pa_cons (pv 4) pa_nil))))))))), ?_⟩
    refine ⟨.ref d, rfl, d, 5, rfl, hd, by decide, by decide, fun r H1 r0 r1 x1 d1 => ⟨_, _, rfl, rfl, asg_go2 ?_⟩⟩
    dsimp only [List.set]
    obtain ⟨n', rfl⟩ := Int.eq_ofNat_of_zero_le r0
    generalize en : (1 : Int) + ((n' : Nat) : Int) = nI
    obtain ⟨n, rfl, hn⟩ : ∃ n : Nat, nI = (n : Nat) ∧ 1 ≤ n ∧ n ≤ 5 := ⟨1 + n', by omega, by omega⟩
    have hl1 := x1 l _ nl hl
    obtain ⟨od, hod⟩ := d1.some
    -- the rows of worlds
    refine ⟨.int (n : Nat), rfl, (n : Int), rfl, by omega, by omega, fun R hR => ?_⟩
    rw [Int.toNat_natCast]
    refine lc_range (lo := 0) (n := n) (fun i H' => (∃ qs : List Addr, H' R = some (.lst (qs.map V.ref)) ∧ qs.length = i ∧ ∀ q ∈ qs, H1 q = none ∧ q ≠ R ∧ H' q = some (.lst [])) ∧ Same H1 H') ⟨⟨[], upd_same, rfl, fun q m => nomatch m⟩, (Same.refl H1).mut hR⟩ (fun i H' hi hP => ?_) (fun H2 hP => ?_)
    · obtain ⟨⟨qs, hR1, lq, aq⟩, s1⟩ := hP
      refine ⟨rfl, tyes ⟨Nat.zero_le _, fun p hp => ?_⟩⟩
      have npR : R ≠ p := ne_of_none hR1 hp
      refine ⟨_, (upd_ne npR).trans hR1, lt_line' (by rw [List.length_map]; omega), ⟨qs ++ [p], by rw [upd_same, List.map_append]; rfl, by rw [List.length_append, lq]; rfl, fun q m => ?_⟩, (s1.new hp).mut hR⟩
      rcases List.mem_append.mp m with m | m
      · obtain ⟨z1, z2, z3⟩ := aq q m
        exact ⟨z1, z2, (upd_ne z2).trans ((upd_ne (ne_of_none z3 hp)).trans z3)⟩
      · rw [List.mem_singleton.mp m]
        exact ⟨s1.free hp, npR.symm, (upd_ne npR.symm).trans upd_same⟩
    obtain ⟨⟨qs1, hR2, lq1, aq1⟩, s2⟩ := hP
    -- the rows of atoms
    refine ⟨.int (n : Nat), rfl, (n : Int), rfl, by omega, by omega, fun T2 hT2 => ?_⟩
    rw [Int.toNat_natCast]
    refine lc_range (lo := 0) (n := n) (fun i H' => (∃ qs : List Addr, H' T2 = some (.lst (qs.map V.ref)) ∧ qs.length = i ∧ ∀ q ∈ qs, H2 q = none ∧ q ≠ T2 ∧ H' q = some (.lst [])) ∧ Same H2 H') ⟨⟨[], upd_same, rfl, fun q m => nomatch m⟩, (Same.refl H2).mut hT2⟩ (fun i H' hi hP => ?_) (fun H3 hP => ?_)
    · obtain ⟨⟨qs, hR1, lq, aq⟩, s1⟩ := hP
      refine ⟨rfl, tyes ⟨Nat.zero_le _, fun p hp => ?_⟩⟩
      have npR : T2 ≠ p := ne_of_none hR1 hp
      refine ⟨_, (upd_ne npR).trans hR1, lt_line' (by rw [List.length_map]; omega), ⟨qs ++ [p], by rw [upd_same, List.map_append]; rfl, by rw [List.length_append, lq]; rfl, fun q m => ?_⟩, (s1.new hp).mut hT2⟩
      rcases List.mem_append.mp m with m | m
      · obtain ⟨z1, z2, z3⟩ := aq q m
        exact ⟨z1, z2, (upd_ne z2).trans ((upd_ne (ne_of_none z3 hp)).trans z3)⟩
      · rw [List.mem_singleton.mp m]
        exact ⟨s1.free hp, npR.symm, (upd_ne npR.symm).trans upd_same⟩
    obtain ⟨⟨qs2, hT3, lq2, aq2⟩, s3⟩ := hP
    refine ⟨lt_line (by show 2 ≤ 1000000; decide), fun t ht => ?_⟩
    have nRT : R ≠ T2 := ne_of_none hR2 hT2
    have dR : d ≠ R := ne_of_none hod hR
    have dT : d ≠ T2 := fun e => by rw [← e] at hT2; rw [s2 _ _ hod] at hT2; cases hT2
    have s4 := (s2.trans s3).new (o := .tup [.ref R, .ref T2]) ht
    have hR4 := (upd_ne (o := .tup [.ref R, .ref T2]) (ne_of_none (s3 _ _ hR2) ht)).trans (s3 _ _ hR2)
    have hT4 := (upd_ne (o := .tup [.ref R, .ref T2]) (ne_of_none hT3 ht)).trans hT3
    have aq1' : ∀ q ∈ qs1, q ∉ [d, R, T2] ∧ upd H3 t (.tup [.ref R, .ref T2]) q = some (.lst []) := fun q m => by
      obtain ⟨z1, z2, z3⟩ := aq1 q m
      refine ⟨fun k => ?_, (upd_ne (ne_of_none (s3 _ _ z3) ht)).trans (s3 _ _ z3)⟩
      rcases List.mem_cons.mp k with e | k
      · rw [e, hod] at z1; cases z1
      · rcases List.mem_cons.mp k with e | k
        · exact z2 e
        · rw [List.mem_singleton.mp k, hT2] at z3; cases z3
    have aq2' : ∀ q ∈ qs2, q ∉ [d, R, T2] ∧ upd H3 t (.tup [.ref R, .ref T2]) q = some (.lst []) := fun q m => by
      obtain ⟨z1, z2, z3⟩ := aq2 q m
      refine ⟨fun k => ?_, (upd_ne (ne_of_none z3 ht)).trans z3⟩
      rcases List.mem_cons.mp k with e | k
      · rw [e, s2 _ _ hod] at z1; cases z1
      · rcases List.mem_cons.mp k with e | k
        · rw [e, hR2] at z1; cases z1
        · exact z2 (List.mem_singleton.mp k)
    have htt : upd H3 t (.tup [.ref R, .ref T2]) t = some (.tup [.ref R, .ref T2]) := upd_same
    have d4 := (d1.same (s2.trans s3)).new (o := .tup [.ref R, .ref T2]) ht
    have hRn := hR
    have hTn : H1 T2 = none := s2.free hT2
    generalize upd H3 t (.tup [.ref R, .ref T2]) = G at s4 hR4 hT4 aq1' aq2' htt d4 ⊢
    refine ⟨t, _, rfl, .of htt, rfl, _, _, rfl, asg_go2 ⟨_, _, rfl, asg_go2 ⟨rfl, ?_⟩⟩⟩
    dsimp only [List.set]
    have rep : ∀ {α : Type} {qs : List Addr} {f : List α → List V}, f [] = [] → qs.length = n → (∀ q ∈ qs, q ∉ [d, R, T2] ∧ G q = some (.lst [])) → ∀ {L}, G L = some (.lst (qs.map V.ref)) → RowsX G L [d, R, T2] ((List.replicate n ([] : List α)).map f) := fun {α qs f} e lq aq {L} hL =>
      ⟨qs, hL, by rw [List.length_map, List.length_replicate]; exact lq, fun q m => (aq q m).1, fun i q row e1 e2 => by
        rw [List.getElem?_map, List.getElem?_replicate] at e2
        split at e2
        · cases e2
          rw [e]
          exact (aq q (List.mem_of_getElem? e1)).2
        · cases e2⟩
    have g1 : RowsX G R [d, R, T2] (WI (List.replicate n [])) := rep rfl lq1 aq1' hR4
    have g2 : RowsX G T2 [d, R, T2] (WS (List.replicate n [])) := rep rfl lq2 aq2' hT4
    have g0 : DrP as n n (List.replicate n []) (List.replicate n []) := {
      l1 := List.length_replicate
      l2 := List.length_replicate
      asc := fun w row hw e => by have := lt_of_get e; rw [List.length_replicate] at this; omega
      up := fun w row hw e => by have := lt_of_get e; rw [List.length_replicate] at this; omega
      at' := fun w tw hw e => by have := lt_of_get e; rw [List.length_replicate] at this; omega
      tru := fun w row tw hw e => by have := lt_of_get e; rw [List.length_replicate] at this; omega }
    have x4 : Ext d H G := fun a o ne h => s4 _ _ (x1 a o ne h)
    refine ⟨.int (n : Nat), rfl, (n : Int), 1, rfl, rfl, 1, rfl, 1, rfl, (n : Int) - 1, -1, -1, _, rfl, RgC.neg (by omega) (by omega) (by omega) (by omega), ?_⟩
    rw [show ((n : Int) - 1 - -1).toNat = n by omega]
    refine for_rangeC (fun i σ' H' => (∃ s5 s6 s7 s8 s9 s10 s11, σ' = [some (.ref d), some (.ref l), some (.int (n : Nat)), some (.ref R), some (.ref T2), s5, s6, s7, s8, s9, s10, s11]) ∧ IsDice H' d ∧ (∃ rs ts, DrP as n (n - i) rs ts ∧ RowsX H' R [d, R, T2] (WI rs) ∧ RowsX H' T2 [d, R, T2] (WS ts)) ∧ Ext d H H')
      ⟨⟨_, _, _, _, _, _, _, rfl⟩, d4, ⟨_, _, g0, g1, g2⟩, x4⟩ (fun i σ' H' hi hP => ?_) (fun σ' H' hP => ?_)
    · obtain ⟨⟨s5, s6, s7, s8, s9, s10, s11, rfl⟩, dc, ⟨rs, ts, dr, g1, g2⟩, x5⟩ := hP
      obtain ⟨w, ew⟩ : ∃ w : Nat, n - i = w + 1 := ⟨n - i - 1, by omega⟩
      have ew2 : n - (i + 1) = w := by omega
      have lwn : w < n := by omega
      rw [ew] at dr
      rw [ew2, show (n : Int) - 1 + (i : Nat) * -1 = ((w : Nat) : Int) by omega]
      show tSeq _ _ _ _ _
      dsimp only [List.set]
      have lR : (WI rs).length = n := by unfold WI; rw [List.length_map]; exact dr.l1
      have lT : (WS ts).length = n := by unfold WS; rw [List.length_map]; exact dr.l2
      refine ⟨.int (w : Nat), rfl, lt_line (by show 1 ≤ 1000000; decide), fun f0 hf0 => asg_go2 ?_⟩
      dsimp only [List.set]
      have kp : ∀ {H' : Hp} {p : Addr} {o : HO}, H' p = none → IsDice H' d → RowsX H' R [d, R, T2] (WI rs) → RowsX H' T2 [d, R, T2] (WS ts) → IsDice (upd H' p o) d ∧ RowsX (upd H' p o) R [d, R, T2] (WI rs) ∧ RowsX (upd H' p o) T2 [d, R, T2] (WS ts) ∧ p ∉ [d, R, T2] := fun {H' p o} hp a b c => ⟨a.new hp, b.new hp, c.new hp, fun m => by
        obtain ⟨u, hu⟩ := a.some
        obtain ⟨_, hb, _, _⟩ := b.at'
        obtain ⟨_, hc, _, _⟩ := c.at'
        rcases List.mem_cons.mp m with e | m
        · rw [e, hu] at hp; cases hp
        · rcases List.mem_cons.mp m with e | m
          · rw [e, hb] at hp; cases hp
          · rw [List.mem_singleton.mp m, hc] at hp; cases hp⟩
      have kx : ∀ {H' H2 : Hp}, Ext d H' H2 → RowsX H' R [d, R, T2] (WI rs) → RowsX H' T2 [d, R, T2] (WS ts) → RowsX H2 R [d, R, T2] (WI rs) ∧ RowsX H2 T2 [d, R, T2] (WS ts) := fun {H' H2} x b c => ⟨b.keep (x R · dR.symm) fun q m o e => x q o (fun z => m (by rw [z]; simp)) e, c.keep (x T2 · dT.symm) fun q m o e => x q o (fun z => m (by rw [z]; simp)) e⟩
      obtain ⟨dc, g1, g2, nf0⟩ := kp (o := .lst [V.int (w : Nat)]) hf0 dc g1 g2
      have hf : upd H' f0 (.lst [V.int (w : Nat)]) f0 = some (.lst (VI [w])) := upd_same
      have x6 := x5.new (o := .lst [V.int (w : Nat)]) hf0
      generalize upd H' f0 (.lst [V.int (w : Nat)]) = G2 at dc g1 g2 hf x6 ⊢
      refine cut_for (fun σ' H' => (∃ f fnd s7 s8 s9 s10 s11, σ' = [some (.ref d), some (.ref l), some (.int (n : Nat)), some (.ref R), some (.ref T2), some (.int (w : Nat)), some (.ref f), s7, s8, s9, s10, s11] ∧ H' f = some (.lst (VI fnd)) ∧ FndP n w rs fnd ∧ fnd.length ≤ 60 ∧ f ≠ d) ∧ IsDice H' d ∧ (RowsX H' R [d, R, T2] (WI rs) ∧ RowsX H' T2 [d, R, T2] (WS ts)) ∧ Ext d H H') (fun N hN => ?_) (fun σ1 H5 hP => ?_)
      · refine ⟨.int (w : Nat), rfl, (w : Int), 1, rfl, rfl, .int (n : Nat), rfl, (w : Int) + 1, (n : Int), rfl, ⟨by omega, by omega, by omega, by omega⟩, ?_⟩
        rw [show ((n : Int) - ((w : Int) + 1)).toNat = n - (w + 1) by omega]
        refine for_range (lo := (w : Int) + 1) (n := n - (w + 1)) (fun _ σ' H' => (∃ f fnd s7 s8 s9 s10 s11, σ' = [some (.ref d), some (.ref l), some (.int (n : Nat)), some (.ref R), some (.ref T2), some (.int (w : Nat)), some (.ref f), s7, s8, s9, s10, s11] ∧ H' f = some (.lst (VI fnd)) ∧ FndP n w rs fnd ∧ fnd.length ≤ 60 ∧ f ≠ d) ∧ IsDice H' d ∧ (RowsX H' R [d, R, T2] (WI rs) ∧ RowsX H' T2 [d, R, T2] (WS ts)) ∧ Ext d H H') ⟨⟨f0, [w], _, _, _, _, _, rfl, hf, fnd_one lwn, by show 1 ≤ 60; decide, fun e => nf0 (by rw [e]; simp)⟩, dc, ⟨g1, g2⟩, x6⟩ (fun j σ' H' hj hP => ?_) (fun σ' H' hP => hN _ _ hP)
        obtain ⟨⟨f, fnd, s7, s8, s9, s10, s11, rfl, hf, fp, lf, nfd⟩, dc, ⟨g1, g2⟩, x7⟩ := hP
        rw [show (w : Int) + 1 + (j : Nat) = ((w + 1 + j : Nat) : Int) by omega]
        show tIfS _ _ _ _ _ _
        dsimp only [List.set]
        refine ⟨.ref d, rfl, d, 2, rfl, dc, by decide, by decide, fun r H6 r0 r1 x8 dc => ⟨rfl, _, rfl, ?_⟩⟩
        obtain ⟨g1, g2⟩ := kx x8 g1 g2
        have x9 := x7.trans x8
        have hf := x8 f _ nfd hf
        refine ite2 (fun _ => ?_) (fun _ => ?_)
        · have lo : w + 1 + j < n := by omega
          have er := List.getElem?_eq_getElem (show w + 1 + j < rs.length by rw [dr.l1]; exact lo)
          generalize rs[w + 1 + j]'(show w + 1 + j < rs.length by rw [dr.l1]; exact lo) = ro at er
          obtain ⟨xs, hxs, lxs, atx⟩ := g1.at'
          obtain ⟨qo, yo, zo, no⟩ := atx (w + 1 + j) (VI ro) (by unfold WI; rw [List.getElem?_map, er]; rfl)
          have nqo : qo ≠ d := fun e => no (by rw [e]; simp)
          refine ⟨.ref f, rfl, .ref R, rfl, .int (w + 1 + j : Nat), rfl, R, xs, (w + 1 + j : Nat), .ref qo, rfl, rfl, SqL.of hxs, atI_nat yo, qo, rfl, ⟨_, SqL.of zo⟩, fun D hD => lc_list (xs := VI ro) (fun k H2 => H2 D = some (.lst (VI ((ro.take k).filter fun x => decide (x ∉ fnd)))) ∧ Same H6 H2) ⟨upd_same, (Same.refl H6).mut hD⟩ (fun k H2 _ hP => SqL.of (hP.2 _ _ zo)) (fun k y H2 hy hP => ?_) (fun H2 hP => ?_)⟩
          · obtain ⟨hD1, s1⟩ := hP
            obtain ⟨z, ez, rfl⟩ := vi_at hy
            have lk := lt_of_get ez
            refine ⟨rfl, ?_⟩
            have et : (ro.take (k + 1)).filter (fun x => decide (x ∉ fnd)) = (ro.take k).filter (fun x => decide (x ∉ fnd)) ++ [z].filter (fun x => decide (x ∉ fnd)) := by rw [take_next ez, List.filter_append]
            refine ⟨.int (z : Nat), rfl, .ref f, rfl, f, VI fnd, rfl, .inl (SqL.of (s1 _ _ hf)), rfl, vi_flat fnd, _, rfl, ?_⟩
            rw [if_pos rfl, inV_vi]
            by_cases hz : z ∈ fnd
            · rw [decide_eq_true hz]
              refine iteF ⟨?_, s1⟩
              rw [et, List.filter_cons_of_neg (by simp [hz]), List.filter_nil, List.append_nil]
              exact hD1
            · rw [decide_eq_false hz]
              refine iteT ⟨.int (z : Nat), rfl, _, hD1, lt_line' ?_, ?_, s1.mut hD⟩
              · have := List.length_filter_le (fun x => decide (x ∉ fnd)) (ro.take k)
                have l60 : ro.length ≤ 60 := by
                  have := List.Nodup.length_le_of_subset ((dr.asc _ ro (by omega) er).1.imp fun a => Nat.ne_of_lt a) (fun o m => List.mem_range.mpr ((dr.asc _ ro (by omega) er).2.2 o m).2)
                  rw [List.length_range] at this
                  omega
                rw [List.length_take] at this
                rw [vi_len]
                omega
              · rw [upd_same, et, List.filter_cons_of_pos (by simp [hz]), List.filter_nil]
                unfold VI
                rw [List.map_append]
                rfl
          · obtain ⟨hD1, s1⟩ := hP
            rw [vi_len, List.take_length] at hD1
            have fm := fnd_more dr fp (show w + 1 ≤ w + 1 + j by omega) er
            have lm : (fnd ++ ro.filter fun x => decide (x ∉ fnd)).length ≤ 60 := by
              have := List.Nodup.length_le_of_subset fm.nd (fun o m => List.mem_range.mpr (fm.low o m).2)
              rw [List.length_range] at this
              omega
            have eV : VI fnd ++ VI (ro.filter fun x => decide (x ∉ fnd)) = VI (fnd ++ ro.filter fun x => decide (x ∉ fnd)) := by unfold VI; rw [List.map_append]
            refine ⟨f, D, _, _, rfl, rfl, s1 _ _ hf, hD1, lt_line (by rw [vi_len, vi_len]; rw [List.length_append] at lm; omega), fun p hp => ?_⟩
            rw [eV]
            obtain ⟨dc, g1, g2, np⟩ := kp (o := .lst (VI (fnd ++ ro.filter fun x => decide (x ∉ fnd)))) hp (dc.same s1) (g1.same s1) (g2.same s1)
            exact ⟨⟨p, _, _, _, _, _, _, rfl, upd_same, fm, lm, fun e => np (by rw [e]; simp)⟩, dc, ⟨g1, g2⟩, (x9.trans (Ext.same s1)).new hp⟩
        · exact ⟨⟨f, fnd, _, _, _, _, _, rfl, hf, fp, lf, nfd⟩, dc, ⟨g1, g2⟩, x9⟩
      · obtain ⟨⟨f, fnd, s7, s8, s9, s10, s11, rfl, hf, fp, lf, nfd⟩, dc, ⟨g1, g2⟩, x7⟩ := hP
        rw [vi_map] at hf
        refine ⟨.ref f, rfl, f, _, rfl, SqL.of hf, by rw [List.length_map]; omega, fun ns' pn pmn pwn hpn => ?_⟩
        obtain ⟨row, rfl, pm2⟩ := int_row pmn
        have le2 := row_le pwn
        rw [← vi_map]
        obtain ⟨dc, g1, g2, npn⟩ := kp (o := .lst (VI row)) hpn dc g1 g2
        have hpn2 : upd H5 pn (.lst (VI row)) pn = some (.lst (VI row)) := upd_same
        have x8 := x7.new (o := .lst (VI row)) hpn
        generalize upd H5 pn (.lst (VI row)) = G3 at dc g1 g2 hpn2 x8 ⊢
        obtain ⟨xs, hxs, lxs, _⟩ := g1.at'
        refine ⟨.ref R, rfl, .int (w : Nat), rfl, R, xs, (w : Nat), w, rfl, rfl, hxs, ix_nat (by omega), ?_⟩
        have g1 := g1.put hxs hpn2 npn (show R ∈ [d, R, T2] by simp) (show w < (WI rs).length by omega)
        have g2 := g2.off (o := .lst (xs.set w (.ref pn))) nRT.symm (show R ∈ [d, R, T2] by simp)
        rw [show (WI rs).set w (VI row) = WI (rs.set w row) by unfold WI; rw [List.map_set]] at g1
        have dc := dc.mut (o := .lst (xs.set w (.ref pn))) (Ne.symm dR)
        have hRH : H R = none := x1.none (Ne.symm dR) hR
        have hTH : H T2 = none := x1.none (Ne.symm dT) hTn
        have x9 := x8.mut (o := .lst (xs.set w (.ref pn))) hRH
        generalize upd G3 R (.lst (xs.set w (.ref pn))) = G4 at dc g1 g2 x9 ⊢
        have lrow : row.length ≤ 60 := by rw [pm2.length_eq]; exact lf
        obtain ⟨ys, hys, lys, aty⟩ := g1.at'
        obtain ⟨qw, yw, zw, nqw⟩ := aty w (VI row) (by unfold WI; rw [List.getElem?_map, List.getElem?_set_self (by rw [dr.l1]; exact lwn)]; rfl)
        refine ⟨.ref R, rfl, .int (w : Nat), rfl, R, ys, (w : Nat), .ref qw, rfl, rfl, SqL.of hys, atI_nat yw, qw, rfl, ⟨_, SqL.of zw⟩, fun ab hab => lc_list (xs := VI row) (fun k H2 => H2 ab = some (.lst (VI ((row.take k).filter fun x => decide (x ≠ w)))) ∧ Same G4 H2) ⟨upd_same, (Same.refl G4).mut hab⟩ (fun k H2 _ hP => SqL.of (hP.2 _ _ zw)) (fun k y H2 hy hP => ?_) (fun H2 hP => asg_go2 ?_)⟩
        · obtain ⟨hD1, s1⟩ := hP
          obtain ⟨z, ez, rfl⟩ := vi_at hy
          refine ⟨rfl, ?_⟩
          have et : (row.take (k + 1)).filter (fun x => decide (x ≠ w)) = (row.take k).filter (fun x => decide (x ≠ w)) ++ [z].filter (fun x => decide (x ≠ w)) := by rw [take_next ez, List.filter_append]
          refine ⟨.int (z : Nat), rfl, .int (w : Nat), rfl, rfl, _, rfl, ?_⟩
          by_cases hz : z = w
          · rw [decide_eq_true (show V.int ((z : Nat) : Int) = V.int ((w : Nat) : Int) by rw [hz])]
            refine iteF ⟨?_, s1⟩
            rw [et, List.filter_cons_of_neg (by simp [hz]), List.filter_nil, List.append_nil]
            exact hD1
          · rw [decide_eq_false (show ¬ V.int ((z : Nat) : Int) = V.int ((w : Nat) : Int) from fun e => hz (by have := V.int.inj e; omega))]
            refine iteT ⟨.int (z : Nat), rfl, _, hD1, lt_line' ?_, ?_, s1.mut hab⟩
            · have := List.length_filter_le (fun x => decide (x ≠ w)) (row.take k)
              rw [List.length_take] at this
              rw [vi_len]
              omega
            · rw [upd_same, et, List.filter_cons_of_pos (by simp [hz]), List.filter_nil]
              unfold VI
              rw [List.map_append]
              rfl
        · obtain ⟨hab1, s1⟩ := hP
          dsimp only [List.set]
          rw [vi_len, List.take_length] at hab1
          have dc := dc.same s1
          have g1 := g1.same s1
          have g2 := g2.same s1
          have x9 := x9.trans (Ext.same s1)
          have hlH := x9 l _ nl hl
          have abLow : ∀ o ∈ row.filter (fun x => decide (x ≠ w)), o < n ∧ o ≠ w ∧ o ∈ row := fun o m => by
            obtain ⟨m1, m2⟩ := List.mem_filter.mp m
            exact ⟨(fp.low o (pm2.mem_iff.mp m1)).2, of_decide_eq_true m2, m1⟩
          generalize eab : row.filter (fun x => decide (x ≠ w)) = av at hab1 abLow
          have lav : av.length ≤ 60 := by rw [← eab]; have := List.length_filter_le (fun x => decide (x ≠ w)) row; omega
          refine ⟨.ref l, rfl, l, rfl, ⟨_, SqL.of hlH⟩, fun L hL => lc_list (xs := as.map V.str) (fun k H3 => (∃ lx : List Str, H3 L = some (.lst (lx.map V.str)) ∧ lx.Sublist (as.take k) ∧ ∀ x ∈ lx, ∀ o ∈ av, ∀ to, ts[o]? = some to → x ∈ to) ∧ Same H2 H3) ⟨⟨[], upd_same, List.nil_sublist _, fun x m => nomatch m⟩, (Same.refl H2).mut hL⟩ (fun k H3 _ hP => SqL.of (hP.2 _ _ hlH)) (fun k y H3 hy hP => ?_) (fun H3 hP => asg_go2 ?_)⟩
          · obtain ⟨⟨lx, hL1, sub, good⟩, s3⟩ := hP
            obtain ⟨x, ex, rfl⟩ := str_at hy
            have lk := lt_of_get ex
            refine ⟨rfl, ?_⟩
            refine ⟨.ref ab, rfl, ab, rfl, ⟨_, SqL.of (s3 _ _ hab1)⟩, fun D hD => lc_list (xs := VI av) (fun j H4 => (∃ bv : List Nat, H4 D = some (.lst (VI bv)) ∧ bv.length ≤ j ∧ (bv = [] ↔ ∀ o ∈ av.take j, ∀ to, ts[o]? = some to → x ∈ to)) ∧ Same H3 H4) ⟨⟨[], upd_same, Nat.le_refl _, ⟨fun _ o m => (by cases m), fun _ => rfl⟩⟩, (Same.refl H3).mut hD⟩ (fun j H4 _ hP => SqL.of (hP.2 _ _ (s3 _ _ hab1))) (fun j z H4 hz hP => ?_) (fun H4 hP => ⟨Nat.zero_le _, fun p hp => ?_⟩)⟩
            · obtain ⟨⟨bv, hD1, lb, eb⟩, s4⟩ := hP
              obtain ⟨o, eo, rfl⟩ := vi_at hz
              have lj := lt_of_get eo
              obtain ⟨on, _, _⟩ := abLow o (List.mem_of_getElem? eo)
              have et := List.getElem?_eq_getElem (show o < ts.length by rw [dr.l2]; exact on)
              generalize ts[o]'(show o < ts.length by rw [dr.l2]; exact on) = to at et
              obtain ⟨zs, hzs, lzs, atz⟩ := (g2.same (s3.trans s4)).at'
              obtain ⟨qo, yo, zo, _⟩ := atz o (to.map V.str) (by unfold WS; rw [List.getElem?_map, et]; rfl)
              refine ⟨rfl, ?_⟩
              refine ⟨.str x, rfl, .ref T2, rfl, .int (o : Nat), rfl, T2, zs, (o : Nat), .ref qo, rfl, rfl, SqL.of hzs, atI_nat yo, qo, to.map V.str, rfl, .inl (SqL.of zo), rfl, str_flat to, _, rfl, ?_⟩
              rw [if_pos rfl, inV_strs]
              by_cases hx : x ∈ to
              · rw [decide_eq_true hx]
                refine iteF ⟨⟨bv, hD1, by omega, eb.trans ⟨fun h o2 m to2 e2 => ?_, fun h o2 m => h o2 (by rw [take_next eo]; exact List.mem_append_left _ m)⟩⟩, s4⟩
                rw [take_next eo] at m
                rcases List.mem_append.mp m with m | m
                · exact h o2 m to2 e2
                · rw [List.mem_singleton.mp m, et] at e2
                  cases e2
                  exact hx
              · rw [decide_eq_false hx]
                refine iteT ⟨.int (o : Nat), rfl, _, hD1, lt_line' (by rw [vi_len]; omega), ⟨bv ++ [o], by rw [upd_same]; unfold VI; rw [List.map_append]; rfl, by rw [List.length_append, List.length_singleton]; omega, ⟨fun h => absurd h (by simp), fun h => absurd (h o (by rw [take_next eo]; exact List.mem_append_right _ (List.mem_singleton.mpr rfl)) to et) hx⟩⟩, s4.mut hD⟩
            · obtain ⟨⟨bv, hD1, lb, eb⟩, s4⟩ := hP
              rw [vi_len, List.take_length] at eb
              have s5 := s4.new (o := .lst []) hp
              have hD2 := (upd_ne (o := .lst []) (ne_of_none hD1 hp)).trans hD1
              have hp2 : upd H4 p (.lst []) p = some (.lst []) := upd_same
              generalize upd H4 p (.lst []) = H6 at s5 hD2 hp2 ⊢
              have hL6 := s5 _ _ hL1
              refine ⟨_, _, .lst (SqL.of hD2) (dp_vi bv), .lst (SqL.of hp2) .nil, shaped_I bv, by decide, _, rfl, ?_⟩
              rw [eqv_nil]
              by_cases hb : bv = []
              · rw [decide_eq_true hb]
                refine iteT ⟨.str x, rfl, _, hL6, lt_line' ?_, ⟨lx ++ [x], by rw [upd_same, List.map_append]; rfl, by rw [take_next ex]; exact sub.append (List.Sublist.refl _), fun y m => ?_⟩, (s3.trans s5).mut hL⟩
                · have := sub.length_le
                  rw [List.length_take] at this
                  rw [List.length_map]
                  omega
                · rcases List.mem_append.mp m with m | m
                  · exact good y m
                  · rw [List.mem_singleton.mp m]
                    exact eb.mp hb
              · rw [decide_eq_false hb]
                refine iteF ⟨⟨lx, hL6, by rw [take_next ex]; exact sub.trans (List.sublist_append_left _ _), good⟩, s3.trans s5⟩
          · obtain ⟨⟨lx, hL1, sub, good⟩, s3⟩ := hP
            dsimp only [List.set]
            rw [List.length_map, List.take_length] at sub
            have dc3 := dc.same s3
            have llx : lx.length ≤ 3 := Nat.le_trans sub.length_le few
            obtain ⟨od2, hod2⟩ := dc.some
            have nLd : L ≠ d := fun e => by rw [e, hod2] at hL; cases hL
            refine ⟨.ref L, rfl, L, rfl, ⟨_, SqL.of hL1⟩, fun C hC => lc_list (xs := lx.map V.str) (fun k H4 => (∃ ch : List Str, H4 C = some (.lst (ch.map V.str)) ∧ ch.Sublist (lx.take k)) ∧ IsDice H4 d ∧ Ext d H3 H4) ⟨⟨[], upd_same, List.nil_sublist _⟩, dc3.new hC, (Ext.refl H3).mut hC⟩ (fun k H4 _ hP => SqL.of (hP.2.2 _ _ nLd hL1)) (fun k y H4 hy hP => ?_) (fun H4 hP => ?_)⟩
            · obtain ⟨⟨ch, hC1, sub2⟩, dc4, x10⟩ := hP
              obtain ⟨x, ex, rfl⟩ := str_at hy
              have lk := lt_of_get ex
              obtain ⟨od3, hod3⟩ := dc3.some
              have nCd : C ≠ d := fun e => by rw [e, hod3] at hC; cases hC
              refine ⟨rfl, ?_⟩
              refine ⟨.ref d, rfl, d, 3, rfl, dc4, by decide, by decide, fun r H5 r0 r1 x11 dc5 => ⟨_, _, rfl, rfl, _, rfl, ?_⟩⟩
              have hC2 := x11 C _ nCd hC1
              refine ite2 (fun _ => ?_) (fun _ => ?_)
              · refine ⟨.str x, rfl, _, hC2, lt_line' ?_, ⟨ch ++ [x], by rw [upd_same, List.map_append]; rfl, by rw [take_next ex]; exact sub2.append (List.Sublist.refl _)⟩, dc5.mut nCd, (x10.trans x11).mut hC⟩
                have := sub2.length_le
                rw [List.length_take] at this
                rw [List.length_map]
                omega
              · exact ⟨⟨ch, hC2, by rw [take_next ex]; exact sub2.trans (List.sublist_append_left _ _)⟩, dc5, x10.trans x11⟩
            · obtain ⟨⟨ch, hC1, sub2⟩, dc4, x10⟩ := hP
              rw [List.length_map, List.take_length] at sub2
              refine ⟨C, ch, rfl, SqL.of hC1, by have := sub2.length_le; omega, fun tw pt pmt sot hpt => ?_⟩
              have x12 : Ext d H H4 := (x9.trans (Ext.same s3)).trans x10
              have g1 := (g1.same s3).keep (x10 R · dR.symm) fun q m o e => x10 q o (fun z => m (by rw [z]; simp)) e
              have g2 := (g2.same s3).keep (x10 T2 · dT.symm) fun q m o e => x10 q o (fun z => m (by rw [z]; simp)) e
              have npt : pt ∉ [d, R, T2] := fun m => by
                obtain ⟨u, hu⟩ := dc4.some
                obtain ⟨_, hb, _, _⟩ := g1.at'
                obtain ⟨_, hc, _, _⟩ := g2.at'
                rcases List.mem_cons.mp m with e | m
                · rw [e, hu] at hpt; cases hpt
                · rcases List.mem_cons.mp m with e | m
                  · rw [e, hb] at hpt; cases hpt
                  · rw [List.mem_singleton.mp m, hc] at hpt; cases hpt
              have g1 := g1.new (o := .lst (tw.map V.str)) hpt
              have g2 := g2.new (o := .lst (tw.map V.str)) hpt
              have dc6 := dc4.new (o := .lst (tw.map V.str)) hpt
              have x13 := x12.new (o := .lst (tw.map V.str)) hpt
              have hpt2 : upd H4 pt (.lst (tw.map V.str)) pt = some (.lst (tw.map V.str)) := upd_same
              generalize upd H4 pt (.lst (tw.map V.str)) = G7 at g1 g2 dc6 x13 hpt2 ⊢
              obtain ⟨zs, hzs, lzs, _⟩ := g2.at'
              refine ⟨.ref T2, rfl, .int (w : Nat), rfl, T2, zs, (w : Nat), w, rfl, rfl, hzs, ix_nat (by omega), ?_⟩
              have g2 := g2.put hzs hpt2 npt (show T2 ∈ [d, R, T2] by simp) (show w < (WS ts).length by omega)
              have g1 := g1.off (o := .lst (zs.set w (.ref pt))) nRT (show T2 ∈ [d, R, T2] by simp)
              rw [show (WS ts).set w (tw.map V.str) = WS (ts.set w tw) by unfold WS; rw [List.map_set]] at g2
              have allSub : ∀ x ∈ tw, x ∈ lx := fun x m => sub2.subset (pmt.mem_iff.mp m)
              have tnd : tw.Nodup := pmt.nodup_iff.mpr ((asn.sublist sub).sublist sub2)
              exact ⟨⟨_, _, _, _, _, _, _, rfl⟩, dc6.mut dT.symm, ⟨rs.set w row, ts.set w tw, draw_step dr lwn fp pm2 le2 (sorted_asc sot tnd) (fun x m => sub.subset (allSub x m)) (fun o ho ne to e x m => good x (allSub x m) o (by rw [← eab]; exact List.mem_filter.mpr ⟨ho, decide_eq_true ne⟩) to e), g1, g2⟩, x13.mut hTH⟩
    · obtain ⟨⟨s5, s6, s7, s8, s9, s10, s11, rfl⟩, dc, ⟨rs, ts, dr, g1, g2⟩, x5⟩ := hP
      rw [Nat.sub_self] at dr
      dsimp only
      obtain ⟨od2, hod2⟩ := dc.some
      have room := draw_end dr (by omega) wd
      refine ⟨.ref d, rfl, .int (n : Nat), rfl, (n : Int), rfl, RgOk.of_le (by omega) (by omega) (by omega) (by omega), fun q0 hq0 => ?_⟩
      rw [rg_vi]
      have nq0 : q0 ≠ d := fun e => by rw [e, hod2] at hq0; cases hq0
      refine ⟨.int (n : Nat), rfl, d, q0, VI (List.range n), n, rfl, dc.new hq0, SqL.of upd_same, nq0, by rw [vi_len, List.length_range]; omega, fun p ys left H5 pm ly hp np hys x6 dc5 => ?_⟩
      rw [vi_len, List.length_range, Nat.min_self] at ly
      have le0 : left = [] := by
        have := pm.length_eq
        rw [List.length_append, vi_len, List.length_range] at this
        exact List.eq_nil_of_length_eq_zero (by omega)
      rw [le0, List.append_nil] at pm
      obtain ⟨ord, rfl, pmo⟩ := v_row pm
      have g1 := g1.new (o := .lst (VI (List.range n))) hq0
      have g2 := g2.new (o := .lst (VI (List.range n))) hq0
      have g1 := g1.keep (x6 R · dR.symm) fun q m o e => x6 q o (fun z => m (by rw [z]; simp)) e
      have g2 := g2.keep (x6 T2 · dT.symm) fun q m o e => x6 q o (fun z => m (by rw [z]; simp)) e
      have x7 : Ext d H H5 := (x5.new (o := .lst (VI (List.range n))) hq0).trans x6
      obtain ⟨od5, hod5⟩ := dc5.some
      have ascL : ∀ row ∈ rs, row.length ≤ 60 := fun row m => by
        have z := room.1.2.1 row m
        have := List.Nodup.length_le_of_subset (z.1.imp fun a => Nat.ne_of_lt a) (fun o m => List.mem_range.mpr (z.2 o m))
        rw [List.length_range] at this
        have := dr.l1
        omega
      have inAs : ∀ t ∈ ts, ∀ x ∈ t, x ∈ as := fun t m x mx => by
        obtain ⟨i2, e2⟩ := List.mem_iff_getElem?.mp m
        exact (dr.at' i2 t (Nat.zero_le _) e2).2 x mx
      refine ⟨.ref R, rfl, .ref T2, rfl, p, R, T2, ord, rs, ts, _, _, rfl, hys, g1, g2, by rw [dr.l1, dr.l2], by rw [dr.l1]; omega, fun row m => ⟨ascL row m, (room.1.2.1 row m).2⟩, fun t m => ?_, by rw [dr.l1]; exact pmo, [d], (fun b m => by rw [List.mem_singleton.mp m, hod5]; exact fun z => (by cases z)), fun a rs2 ts2 H6 s6 tp rd => ?_⟩
      · have z := room.2.2.1 t m
        have := List.Nodup.length_le_of_subset (z.1.imp fun {a b} h => ltS_ne h) (inAs t m)
        omega
      · obtain ⟨o2, t2⟩ := turn_room room.1 room.2 (by rw [dr.l1]; exact pmo) tp
        refine q a rs2 ts2 H6 (x7.trans (Ext.same s6)) (dc5.same s6) rd o2 t2 ?_ fun t m x mx => ?_
        · rw [tp.l1, pmo.length_eq, List.length_range]
          omega
        · obtain ⟨k, ek⟩ := List.mem_iff_getElem?.mp m
          have lk := lt_of_get ek
          rw [tp.l2] at lk
          have eo := List.getElem?_eq_getElem lk
          rw [tp.tru k _ eo] at ek
          exact inAs t (List.mem_of_getElem? ek) x mx
end


end My
namespace My
open PySem PySem.Spec PyProof.Rows L2 TL
set_option pp.maxSteps 3000
set_option pp.deepTerms false
/-! ### the law: which rows are a room; a room made of rows -/
def sp__law_is_room (K : PySem.W.Frag) : Sp := fun vs H Q _ => ∃ (p q : Addr) (rs : List (List Nat)) (ts : List (List Str)) (no1 no2 : List Addr), vs = [.ref p, .ref q] ∧ RowsX H p no1 (WI rs) ∧ RowsX H q no2 (WS ts) ∧ rs.length ≤ 10 ∧ ts.length ≤ 10 ∧ (∀ r ∈ rs, r.length ≤ 20) ∧ (∀ t ∈ ts, t.length ≤ 20 ∧ ∀ x ∈ t, isW (.str x) = true) ∧
  ∀ b H', (b = true ↔ (OrdP rs ∧ TruP rs ts)) → Same H H' → Q (.bl b) H'
def sp__law_made_room (K : PySem.W.Frag) (C : Addr) : Sp := fun vs H Q _ => ∃ (a : Addr) (rs : List (List Nat)) (ts : List (List Str)) (no : List Addr), vs = [.ref a] ∧ RoomD H no a rs ts ∧ OrdP rs ∧ TruP rs ts ∧ rs.length ≤ 5 ∧ (∀ t ∈ ts, t.length ≤ 20 ∧ ∀ x ∈ t, x.length ≤ 1000 ∧ ∀ c ∈ x.cps.toList, c < 128) ∧
  ∀ v H', Same H H' → IsRm K C H' v rs ts → Q v H'
theorem or_else {c : Bool} {F Y : Prop} (h1 : Y) (h2 : Y → c = true → F) : if c = true then F else Y := by
  cases c with
  | false => exact h1
  | true => exact h2 h1 rfl
section
variable {P : Program} {w : World} {K : PySem.W.Frag} {mg : Str → Option Value} {base : Heap} {C_Room : Addr}
theorem ok__law_made_room (T : Txt K mg C_Room) (i_Room___init__ : MakC P w K mg base C_Room 4 ["self", "reach", "truths"] (sp_Room___init__ K C_Room)) {f : Addr} {fd : FuncData} (F : Fun K "_law_made_room" "_law_made_room" s__law_made_room f fd) : FnOkG P w K mg base CX0 6 f fd ["_law_room_here"] (sp__law_made_room K C_Room) := by
  have nd := sc__law_made_room.nd
  refine F.okG sc__law_made_room (fun vs H Q E h => ?_) (fun cdv A outer s H vs Q E hr hG h => ?_)
  · obtain ⟨a, rs, ts, no, rfl, _⟩ := h
    rfl
  · obtain ⟨a, rs, ts, no, rfl, rd, ord, tru, l5, wt, q⟩ := h
    refine ⟨_, (pss_one (ps_ret (pe_makeC i_Room___init__ (hr.mono (by first | decide | omega)) rfl T.c_Room (pa_cons (pe_callTy call_tuple_of (by rfl) T.b_tuple (by decide +kernel) (pa_cons (pe_lcD (own := [("_law_row", 1)]) (by rfl) nd (pi_list (pe_dget (by first | exact Nat.lt_of_le_of_lt (Nat.add_le_add_left (by decide : 1 ≤ 64) _) hr.units | exact Nat.lt_of_le_of_lt (Nat.add_le_add_left (by decide : 4 ≤ 64) _) hr.units | exact Nat.lt_of_le_of_lt (Nat.add_le_add_left (by decide : 7 ≤ 64) _) hr.units) (pv 0) pe_str (fun _ _ => rfl))) (blkOk_by (own := [("_law_row", 1)]) (N := ["_law_room_here", "_law_row"]) (sc := (defScope s__law_made_room)) (by decide +kernel)) (fun _ _ _ _ _ => pg_name (i := 1) nd rfl (Or.inl rfl)) (fun _ _ _ _ _ => pts_nil) (fun _ _ _ _ _ => (pe_callTy call_tuple_of (by rfl) T.b_tuple (by decide +kernel) (pa_cons (pv 1) pa_nil)))) pa_nil)) (pa_cons (pe_callTy call_tuple_of (by rfl) T.b_tuple (by decide +kernel) (pa_cons (pe_lcD (own := [("_law_row", 1)]) (by rfl) nd (pi_list (pe_dget (by first | exact Nat.lt_of_le_of_lt (Nat.add_le_add_left (by decide : 1 ≤ 64) _) hr.units | exact Nat.lt_of_le_of_lt (Nat.add_le_add_left (by decide : 4 ≤ 64) _) hr.units | exact Nat.lt_of_le_of_lt (Nat.add_le_add_left (by decide : 7 ≤ 64) _) hr.units) (pv 0) pe_str (fun _ _ => rfl))) (blkOk_by (own := [("_law_row", 1)]) (N := ["_law_room_here", "_law_row"]) (sc := (defScope s__law_made_room)) (by decide +kernel)) (fun _ _ _ _ _ => pg_name (i := 1) nd rfl (Or.inl rfl)) (fun _ _ _ _ _ => pts_nil) (fun _ _ _ _ _ => (pe_callTy call_tuple_of (by rfl) T.b_tuple (by decide +kernel) (pa_cons (pv 1) pa_nil)))) pa_nil)) pa_nil))))), ?_⟩
    obtain ⟨p, q', ha, g1, g2, _, _, _⟩ := rd.ex
    obtain ⟨xs, hxs, lxs, atx⟩ := g1.at'
    obtain ⟨zs, hzs, lzs, atz⟩ := g2.at'
    have lx : xs.length = rs.length := by rw [lxs]; unfold WI; rw [List.length_map]
    have lz : zs.length = ts.length := by rw [lzs]; unfold WS; rw [List.length_map]
    have rl : ∀ r ∈ rs, r.length ≤ 100 := fun r m => by
      have z := ord.2.1 r m
      have := List.Nodup.length_le_of_subset (z.1.imp fun a => Nat.ne_of_lt a) (fun o m => List.mem_range.mpr (z.2 o m))
      rw [List.length_range] at this
      omega
    refine ⟨.ref a, rfl, a, .ref p, rfl, get_reach ha, p, rfl, ⟨_, SqL.of hxs⟩, fun D hD => lc_list (xs := xs) (fun i H' => (∃ qs : List Addr, H' D = some (.lst (qs.map V.ref)) ∧ qs.length = i ∧ ∀ (j : Nat) (qd : Addr) (r : List Nat), qs[j]? = some qd → rs[j]? = some r → H' qd = some (.tup (VI r))) ∧ Same H H') ⟨⟨[], upd_same, rfl, fun j qd r e => nomatch e⟩, (Same.refl H).mut hD⟩ (fun i H' _ hP => SqL.of (hP.2 _ _ hxs)) (fun i y H' hy hP => ?_) (fun H1 hP => ?_)⟩
    · obtain ⟨⟨qs, hD1, lq, atq⟩, s1⟩ := hP
      have li := lt_of_get hy
      have er := List.getElem?_eq_getElem (show i < rs.length by omega)
      generalize rs[i]'(show i < rs.length by omega) = r at er
      obtain ⟨q0, e0, h0, _⟩ := atx i (VI r) (by unfold WI; rw [List.getElem?_map, er]; rfl)
      rw [hy] at e0
      obtain rfl := Option.some.inj e0
      refine ⟨rfl, tyes ?_⟩
      refine ⟨.ref q0, rfl, q0, _, rfl, .inl ⟨SqL.of (s1 _ _ h0), fun t ht => ?_⟩⟩
      have nD : D ≠ t := ne_of_none hD1 ht
      refine ⟨_, (upd_ne nD).trans hD1, lt_line' (by rw [List.length_map]; omega), ⟨qs ++ [t], by rw [upd_same, List.map_append]; rfl, by rw [List.length_append, lq]; rfl, fun j qd r2 e1 e2 => ?_⟩, (s1.new ht).mut hD⟩
      rcases Nat.lt_or_ge j qs.length with lt | ge
      · rw [List.getElem?_append_left lt] at e1
        have z := atq j qd r2 e1 e2
        rw [upd_ne (fun e => by rw [e, hD1] at z; cases z), upd_ne (ne_of_none z ht)]
        exact z
      · have lj := lt_of_get e1
        rw [List.length_append, List.length_singleton] at lj
        have ej : j = qs.length := by omega
        subst ej
        rw [List.getElem?_concat_length] at e1
        cases e1
        rw [lq, er] at e2
        cases e2
        exact (upd_ne nD.symm).trans upd_same
    obtain ⟨⟨qs, hD1, lq, atq⟩, s1⟩ := hP
    refine ⟨D, _, rfl, .inl ⟨SqL.of hD1, fun t1 ht1 => ?_⟩⟩
    have s2 := s1.new (o := .tup (qs.map V.ref)) ht1
    have hT1 : upd H1 t1 (.tup (qs.map V.ref)) t1 = some (.tup (qs.map V.ref)) := upd_same
    have atq2 : ∀ (j : Nat) (qd : Addr) (r : List Nat), qs[j]? = some qd → rs[j]? = some r → upd H1 t1 (.tup (qs.map V.ref)) qd = some (.tup (VI r)) := fun j qd r e1 e2 => (upd_ne (ne_of_none (atq j qd r e1 e2) ht1)).trans (atq j qd r e1 e2)
    generalize upd H1 t1 (.tup (qs.map V.ref)) = G at s2 hT1 atq2 ⊢
    refine ⟨.ref a, rfl, a, .ref q', rfl, get_truths (s2 _ _ ha), q', rfl, ⟨_, SqL.of (s2 _ _ hzs)⟩, fun D hD => lc_list (xs := zs) (fun i H' => (∃ qs : List Addr, H' D = some (.lst (qs.map V.ref)) ∧ qs.length = i ∧ ∀ (j : Nat) (qd : Addr) (r : List Str), qs[j]? = some qd → ts[j]? = some r → H' qd = some (.tup (r.map V.str))) ∧ Same G H') ⟨⟨[], upd_same, rfl, fun j qd r e => nomatch e⟩, (Same.refl G).mut hD⟩ (fun i H' _ hP => SqL.of (hP.2 _ _ (s2 _ _ hzs))) (fun i y H' hy hP => ?_) (fun H2 hP => ?_)⟩
    · obtain ⟨⟨qs, hD1, lq, atq⟩, s1⟩ := hP
      have li := lt_of_get hy
      have er := List.getElem?_eq_getElem (show i < ts.length by omega)
      generalize ts[i]'(show i < ts.length by omega) = r at er
      obtain ⟨q0, e0, h0, _⟩ := atz i (r.map V.str) (by unfold WS; rw [List.getElem?_map, er]; rfl)
      rw [hy] at e0
      obtain rfl := Option.some.inj e0
      refine ⟨rfl, tyes ?_⟩
      refine ⟨.ref q0, rfl, q0, _, rfl, .inl ⟨SqL.of (s1 _ _ (s2 _ _ h0)), fun t ht => ?_⟩⟩
      have nD : D ≠ t := ne_of_none hD1 ht
      refine ⟨_, (upd_ne nD).trans hD1, lt_line' (by rw [List.length_map]; have := tru.1; omega), ⟨qs ++ [t], by rw [upd_same, List.map_append]; rfl, by rw [List.length_append, lq]; rfl, fun j qd r2 e1 e2 => ?_⟩, (s1.new ht).mut hD⟩
      rcases Nat.lt_or_ge j qs.length with lt | ge
      · rw [List.getElem?_append_left lt] at e1
        have z := atq j qd r2 e1 e2
        rw [upd_ne (fun e => by rw [e, hD1] at z; cases z), upd_ne (ne_of_none z ht)]
        exact z
      · have lj := lt_of_get e1
        rw [List.length_append, List.length_singleton] at lj
        have ej : j = qs.length := by omega
        subst ej
        rw [List.getElem?_concat_length] at e1
        cases e1
        rw [lq, er] at e2
        cases e2
        exact (upd_ne nD.symm).trans upd_same
    obtain ⟨⟨qs2, hD2, lq2, atq3⟩, s3⟩ := hP
    refine ⟨D, _, rfl, .inl ⟨SqL.of hD2, fun t2 ht2 => ?_⟩⟩
    have s4 := (s2.trans s3).new (o := .tup (qs2.map V.ref)) ht2
    have s34 := s3.new (o := .tup (qs2.map V.ref)) ht2
    have hT2 : upd H2 t2 (.tup (qs2.map V.ref)) t2 = some (.tup (qs2.map V.ref)) := upd_same
    have hT1b := s34 _ _ hT1
    have atq4 : ∀ (j : Nat) (qd : Addr) (r : List Str), qs2[j]? = some qd → ts[j]? = some r → upd H2 t2 (.tup (qs2.map V.ref)) qd = some (.tup (r.map V.str)) := fun j qd r e1 e2 => (upd_ne (ne_of_none (atq3 j qd r e1 e2) ht2)).trans (atq3 j qd r e1 e2)
    have atq5 : ∀ (j : Nat) (qd : Addr) (r : List Nat), qs[j]? = some qd → rs[j]? = some r → upd H2 t2 (.tup (qs2.map V.ref)) qd = some (.tup (VI r)) := fun j qd r e1 e2 => s34 _ _ (atq2 j qd r e1 e2)
    generalize upd H2 t2 (.tup (qs2.map V.ref)) = G3 at s4 s34 hT2 hT1b atq4 atq5 ⊢
    have rv : RowsV K G3 (qs.map V.ref) (rs.map some) := ⟨by rw [List.length_map, List.length_map]; omega, fun i y e => by
      rw [List.getElem?_map] at e
      obtain ⟨qd, eq, rfl⟩ := Option.map_eq_some_iff.mp e
      have er := List.getElem?_eq_getElem (show i < rs.length by have := lt_of_get eq; omega)
      refine ⟨some _, by rw [List.getElem?_map, er]; rfl, qd, rfl, atq5 i qd _ eq er, rl _ (List.mem_of_getElem? er), fun n hn => ?_⟩
      have := (ord.2.1 _ (List.mem_of_getElem? er)).2 n hn
      omega⟩
    have sv : RowsS K G3 (qs2.map V.ref) (ts.map some) := ⟨by rw [List.length_map, List.length_map]; omega, fun i y e => by
      rw [List.getElem?_map] at e
      obtain ⟨qd, eq, rfl⟩ := Option.map_eq_some_iff.mp e
      have er := List.getElem?_eq_getElem (show i < ts.length by have := lt_of_get eq; omega)
      have z := wt _ (List.mem_of_getElem? er)
      exact ⟨some _, by rw [List.getElem?_map, er]; rfl, qd, rfl, atq4 i qd _ eq er, by omega, z.2⟩⟩
    intro x dx hx hdx ne
    have s5 : Same G3 (upd (upd G3 dx (.own x)) x (.ins C_Room dx [])) := ((Same.refl G3).new hdx).new ((upd_ne (Ne.symm ne)).trans hx)
    have rv' : RowsV K (upd (upd G3 dx (.own x)) x (.ins C_Room dx [])) (qs.map V.ref) (rs.map some) := rv.same s5
    have sv' : RowsS K (upd (upd G3 dx (.own x)) x (.ins C_Room dx [])) (qs2.map V.ref) (ts.map some) := sv.same s5
    exact ⟨x, dx, t1, t2, rs, ts, _, _, rfl, upd_same, s5 _ _ hT1b, rv', s5 _ _ hT2, sv', ord, tru, fun H' kp rm => ⟨rfl, q (.ref x) H' (fun b o hb => kp b o (fun e => by rw [e] at hb; rw [s4 _ _ hb] at hx; cases hx) (s5 _ _ (s4 _ _ hb))) rm⟩⟩
theorem ok__law_is_room (T : Txt K mg C_Room) {f : Addr} {fd : FuncData} (F : Fun K "_law_is_room" "_law_is_room" s__law_is_room f fd) : FnOkG P w K mg base CX0 1 f fd ["_law_reach", "_law_truths"] (sp__law_is_room K) := by
  have nd := sc__law_is_room.nd
  refine F.okG sc__law_is_room (fun vs H Q E h => ?_) (fun cdv A outer s H vs Q E hr hG h => ?_)
  · obtain ⟨p, q, rs, ts, no1, no2, rfl, _⟩ := h
    rfl
  · obtain ⟨p, q', rs, ts, no1, no2, rfl, g1, g2, l10, t10, rl, tl, q⟩ := h
    refine ⟨_, (pss_cons (ps_set (i := 2) nd rfl (.inr rfl) (pe_callB call_len (by rfl) T.b_len (by decide +kernel) (pa_cons (pv 0) pa_nil)))
      (pss_cons (ps_if (PW.pt (pw_or (pt_not (pt_chain op_le op_le pe_int (pv 2) pe_int)) (pw_or1 (pt_cmpR op_ne (pe_callB call_len (by rfl) T.b_len (by decide +kernel) (pa_cons (pv 1) pa_nil)) (pv 2) (nomark _))))) (pss_one (ps_ret pe_bl)) pss_nil)
      (pss_cons (ps_for PassesOwn.never rfl (pi_range1 (by rfl) T.b_range (pa_cons (pv 2) pa_nil)) (pg_name (i := 3) nd rfl (.inr rfl)) (pss_cons (ps_set (i := 4) nd rfl (.inl rfl) (pe_ix ix_list (pv 0) (pv 3) (fun _ _ => rfl)))
      (pss_cons (ps_if (PW.pt (pw_or (pt_cmpR (op_neD hr.units) (pv 4) (pe_callB (cr_sortedSet rfl) (by rfl) T.b_sorted (by decide +kernel) (pa_cons (pe_callTy (cr_setLI rfl) (by rfl) T.b_set (by decide +kernel) (pa_cons (pv 4) pa_nil)) pa_nil)) (nomark _)) (pw_or (pt_cmpR op_notIn_seq (pv 3) (pv 4) (by rfl)) (pw_or1 (pt_cmpR (op_neD hr.units) (pe_lcD (own := [("_law_one", 6)]) (by rfl) nd (pi_list (pv 4)) (blkOk_by (own := [("_law_one", 6)]) (N := ["_law_reach", "_law_truths", "_law_size", "_law_world", "_law_row", "_law_other", "_law_one", "_law_atom"]) (sc := (defScope s__law_is_room)) (by decide +kernel)) (fun _ _ _ _ _ => pg_name (i := 6) nd rfl (Or.inl rfl)) (fun _ _ _ _ _ => pts_one (pt_not (pt_chain op_le op_lt pe_int (pv 6) (pv 2)))) (fun _ _ _ _ _ => (pv 6))) (pe_lst pa_nil) (nomark _)))))) (pss_one (ps_ret pe_bl)) pss_nil)
      (pss_one (ps_if (pt_cmpR (op_neD hr.units) (pe_ix ix_list (pv 1) (pv 3) (fun _ _ => rfl)) (pe_callB (cr_sortS rfl) (by rfl) T.b_sorted (by decide +kernel) (pa_cons (pe_callTy (cr_setE rfl) (by rfl) T.b_set (by decide +kernel) (pa_cons (pe_ix ix_list (pv 1) (pv 3) (fun _ _ => rfl)) pa_nil)) pa_nil)) (nomark _)) (pss_one (ps_ret pe_bl)) pss_nil)))))
      (pss_cons (ps_for PassesOwn.never rfl (pi_range1 (by rfl) T.b_range (pa_cons (pv 2) pa_nil)) (pg_name (i := 3) nd rfl (.inr rfl)) (pss_one (ps_for PassesOwn.never rfl (pi_list (pe_ix ix_list (pv 0) (pv 3) (fun _ _ => rfl))) (pg_name (i := 5) nd rfl (.inr rfl)) (pss_cons (ps_if (PW.pt (pw_and (pt_cmpR op_ne (pv 5) (pv 3) (nomark _)) (pw_and1 (pt_cmpR op_in_seq (pv 3) (pe_ix ix_list (pv 0) (pv 5) (fun _ _ => rfl)) (by rfl))))) (pss_one (ps_ret pe_bl)) pss_nil)
      (pss_cons (ps_if (pt_cmpR (op_neD hr.units) (pe_lcD (own := [("_law_one", 6)]) (by rfl) nd (pi_list (pe_ix ix_list (pv 0) (pv 5) (fun _ _ => rfl))) (blkOk_by (own := [("_law_one", 6)]) (N := ["_law_reach", "_law_truths", "_law_size", "_law_world", "_law_row", "_law_other", "_law_one", "_law_atom"]) (sc := (defScope s__law_is_room)) (by decide +kernel)) (fun _ _ _ _ _ => pg_name (i := 6) nd rfl (Or.inl rfl)) (fun _ _ _ _ _ => pts_one (pt_cmpR op_notIn_seq (pv 6) (pe_ix ix_list (pv 0) (pv 3) (fun _ _ => rfl)) (by rfl))) (fun _ _ _ _ _ => (pv 6))) (pe_lst pa_nil) (nomark _)) (pss_one (ps_ret pe_bl)) pss_nil)
      (pss_one (ps_if (pt_cmpR (op_neD hr.units) (pe_lcD (own := [("_law_atom", 7)]) (by rfl) nd (pi_list (pe_ix ix_list (pv 1) (pv 3) (fun _ _ => rfl))) (blkOk_by (own := [("_law_atom", 7)]) (N := ["_law_reach", "_law_truths", "_law_size", "_law_world", "_law_row", "_law_other", "_law_one", "_law_atom"]) (sc := (defScope s__law_is_room)) (by decide +kernel)) (fun _ _ _ _ _ => pg_name (i := 7) nd rfl (Or.inl rfl)) (fun _ _ _ _ _ => pts_one (pt_cmpR op_notIn_seq (pv 7) (pe_ix ix_list (pv 1) (pv 5) (fun _ _ => rfl)) (by rfl))) (fun _ _ _ _ _ => (pv 7))) (pe_lst pa_nil) (nomark _)) (pss_one (ps_ret pe_bl)) pss_nil)))))))
      (pss_one (ps_ret pe_bl)))))), ?_⟩
    obtain ⟨xs, hxs, lxs, atx⟩ := g1.at'
    obtain ⟨zs, hzs, lzs, atz⟩ := g2.at'
    have lx : xs.length = rs.length := by rw [lxs]; unfold WI; rw [List.length_map]
    have lz : zs.length = ts.length := by rw [lzs]; unfold WS; rw [List.length_map]
    have bad : ∀ {H'}, Same H H' → ¬ (OrdP rs ∧ TruP rs ts) → Q (.bl false) H' := fun {H'} s n => q false H' ⟨fun z => (by cases z), fun z => absurd z n⟩ s
    refine ⟨.ref p, rfl, .ref p, _, rfl, .inl ⟨_, SqL.of hxs, rfl⟩, asg_go2 ?_⟩
    dsimp only [List.set]
    rw [lx]
    refine ⟨.int (rs.length : Nat), rfl, 1, (rs.length : Int), rfl, rfl, decide ((1 : Int) ≤ (rs.length : Nat)), rfl, ?_⟩
    by_cases n1 : 1 ≤ rs.length
    case neg =>
      rw [decide_eq_false (show ¬ (1 : Int) ≤ ((rs.length : Nat) : Int) by omega)]
      exact ⟨false, rfl, iteT (iteT (bad (Same.refl H) fun h => n1 h.1.1.1))⟩
    rw [decide_eq_true (show (1 : Int) ≤ ((rs.length : Nat) : Int) by omega)]
    refine iteT ⟨_, _, rfl, rfl, decide (((rs.length : Nat) : Int) ≤ 60), rfl, ?_⟩
    rw [decide_eq_true (show ((rs.length : Nat) : Int) ≤ 60 by omega)]
    refine iteF ?_
    refine ⟨.ref q', rfl, .ref q', _, rfl, .inl ⟨_, SqL.of hzs, rfl⟩, .int (rs.length : Nat), rfl, rfl, _, rfl, ?_⟩
    rw [lz]
    by_cases el : ts.length = rs.length
    case neg =>
      rw [decide_eq_false (show ¬ V.int ((ts.length : Nat) : Int) = V.int ((rs.length : Nat) : Int) from fun z => el (by have := V.int.inj z; omega))]
      exact iteT (bad (Same.refl H) fun h => el h.2.1)
    rw [decide_eq_true (show V.int ((ts.length : Nat) : Int) = V.int ((rs.length : Nat) : Int) by rw [el])]
    refine iteF (nx_go ?_)
    refine ⟨.int (rs.length : Nat), rfl, (rs.length : Int), rfl, by omega, by omega, ?_⟩
    rw [Int.toNat_natCast]
    refine for_range (lo := 0) (n := rs.length) (fun i σ' H' => (∃ s3 s4 s5 s6 s7, σ' = [some (.ref p), some (.ref q'), some (.int (rs.length : Nat)), s3, s4, s5, s6, s7]) ∧ (∀ (w : Nat) (row : List Nat), w < i → rs[w]? = some row → row.Pairwise (· < ·) ∧ w ∈ row ∧ ∀ n ∈ row, n < rs.length) ∧ (∀ (w : Nat) (tw : List Str), w < i → ts[w]? = some tw → tw.Pairwise ltS) ∧ Same H H')
      ⟨⟨_, _, _, _, _, rfl⟩, (fun w row h => by omega), (fun w tw h => by omega), Same.refl H⟩ (fun i σ' H' hi hP => ?_) (fun σ' H' hP => ?_)
    · obtain ⟨⟨s3, s4, s5, s6, s7, rfl⟩, ok1, ok2, s1⟩ := hP
      rw [show (0 : Int) + (i : Nat) = ((i : Nat) : Int) by omega]
      show tSeq _ _ _ _ _
      dsimp only [List.set]
      have er := List.getElem?_eq_getElem hi
      generalize erow : rs[i] = row at er
      have et := List.getElem?_eq_getElem (show i < ts.length by omega)
      generalize etw : ts[i]'(show i < ts.length by omega) = tw at et
      obtain ⟨qw, yw, zw, _⟩ := atx i (VI row) (by unfold WI; rw [List.getElem?_map, er]; rfl)
      obtain ⟨qt, yt, zt, _⟩ := atz i (tw.map V.str) (by unfold WS; rw [List.getElem?_map, et]; rfl)
      have lrow := rl row (List.mem_of_getElem? er)
      have ltw := tl tw (List.mem_of_getElem? et)
      refine ⟨.ref p, rfl, .int (i : Nat), rfl, p, xs, (i : Nat), .ref qw, rfl, rfl, SqL.of (s1 _ _ hxs), atI_nat yw, asg_go2 ?_⟩
      dsimp only [List.set]
      have zw1 := s1 _ _ zw
      refine ⟨.ref qw, rfl, .ref qw, rfl, qw, row.map (fun n => ((n : Nat) : Int)), rfl, by rw [← vi_map]; exact SqL.of zw1, by rw [List.length_map]; omega, fun a c ha lc => ?_⟩
      rw [List.length_map] at lc
      refine ⟨a, _, c, rfl, upd_same, by omega, fun ns pn pw mem _ hpn => ?_⟩
      obtain ⟨st, rfl, apw, amem⟩ := int_asc pw (fun k => (mem k).trans (decide_eq_true_iff))
      rw [← vi_map]
      refine ⟨_, _, .lst (SqL.of ((s1.new ha).new hpn _ _ zw)) (dp_vi row), .lst (SqL.of upd_same) (dp_vi st), shaped_I row, shaped_I st, _, rfl, ?_⟩
      rw [eqv_ints]
      have nul : ∀ {o : HO} {G0 : Hp} {b c : Addr}, upd G0 b o c = none → c ≠ b ∧ G0 c = none := fun {o G0 b c} h => by
        by_cases e : c = b
        · rw [e, upd_same] at h
          cases h
        · rw [upd_ne e] at h
          exact ⟨e, h⟩
      have same2 : ∀ (o o2 : HO), Same H (upd (upd H' a o) pn o2) := fun o o2 => (s1.new ha).new ((upd_ne (nul hpn).1).trans (nul hpn).2)
      generalize eG : upd (upd H' a _) pn (HO.lst (VI st)) = G
      have s2 : Same H G := eG ▸ same2 _ _
      clear eG
      by_cases hasc : row.Pairwise (· < ·)
      case neg =>
        rw [decide_eq_false (fun e => hasc ((asc_lt_one apw amem).mp e))]
        exact iteT (iteT (bad s2 fun h => hasc (h.1.2.1 row (List.mem_of_getElem? er)).1))
      rw [decide_eq_true ((asc_lt_one apw amem).mpr hasc)]
      refine iteF ?_
      refine ⟨.int (i : Nat), rfl, .ref qw, rfl, qw, VI row, rfl, .inl (SqL.of (s2 _ _ zw)), rfl, vi_flat row, _, rfl, ?_⟩
      rw [if_pos rfl, inV_vi]
      by_cases hw : i ∈ row
      case neg =>
        rw [decide_eq_false hw]
        exact iteT (iteT (bad s2 fun h => hw (h.1.2.2 i row er).1))
      rw [decide_eq_true hw]
      refine iteF ?_
      refine ⟨.ref qw, rfl, qw, rfl, ⟨_, SqL.of (s2 _ _ zw)⟩, fun D hD => lc_list (xs := VI row) (fun k H2 => (∃ bv : List Nat, H2 D = some (.lst (VI bv)) ∧ bv.length ≤ k ∧ (bv = [] ↔ ∀ n ∈ row.take k, n < rs.length)) ∧ Same G H2) ⟨⟨[], upd_same, Nat.le_refl _, ⟨fun _ o m => (by cases m), fun _ => rfl⟩⟩, (Same.refl G).mut hD⟩ (fun k H2 _ hP => SqL.of (hP.2 _ _ (s2 _ _ zw))) (fun k y H2 hy hP => ?_) (fun H2 hP => ⟨Nat.zero_le _, fun p2 hp2 => ?_⟩)⟩
      · obtain ⟨⟨bv, hD1, lb, eb⟩, s4⟩ := hP
        obtain ⟨n, en, rfl⟩ := vi_at hy
        have lk := lt_of_get en
        refine ⟨rfl, ?_⟩
        refine ⟨.int (n : Nat), rfl, 0, (n : Nat), rfl, rfl, decide ((0 : Int) ≤ ((n : Nat) : Int)), rfl, ?_⟩
        rw [decide_eq_true (show (0 : Int) ≤ ((n : Nat) : Int) by omega)]
        refine iteT ⟨.int (rs.length : Nat), rfl, (n : Nat), (rs.length : Nat), rfl, rfl, decide (((n : Nat) : Int) < ((rs.length : Nat) : Int)), rfl, ?_⟩
        by_cases hx : n < rs.length
        · rw [decide_eq_true (show ((n : Nat) : Int) < ((rs.length : Nat) : Int) by omega)]
          refine iteF ⟨⟨bv, hD1, by omega, eb.trans ⟨fun h o2 m => ?_, fun h o2 m => h o2 (by rw [take_next en]; exact List.mem_append_left _ m)⟩⟩, s4⟩
          rw [take_next en] at m
          rcases List.mem_append.mp m with m | m
          · exact h o2 m
          · rw [List.mem_singleton.mp m]
            exact hx
        · rw [decide_eq_false (show ¬ ((n : Nat) : Int) < ((rs.length : Nat) : Int) by omega)]
          exact iteT ⟨.int (n : Nat), rfl, _, hD1, lt_line' (by rw [vi_len]; omega), ⟨bv ++ [n], by rw [upd_same]; unfold VI; rw [List.map_append]; rfl, by rw [List.length_append, List.length_singleton]; omega, ⟨fun h => absurd h (by simp), fun h => absurd (h n (by rw [take_next en]; exact List.mem_append_right _ (List.mem_singleton.mpr rfl))) hx⟩⟩, s4.mut hD⟩
      · obtain ⟨⟨bv, hD1, lb, eb⟩, s4⟩ := hP
        rw [vi_len, List.take_length] at eb
        have s5 := (s2.trans s4).new (o := .lst []) hp2
        have hD2 := (upd_ne (o := .lst []) (ne_of_none hD1 hp2)).trans hD1
        have hp3 : upd H2 p2 (.lst []) p2 = some (.lst []) := upd_same
        generalize upd H2 p2 (.lst []) = G6 at s5 hD2 hp3 ⊢
        refine ⟨_, _, .lst (SqL.of hD2) (dp_vi bv), .lst (SqL.of hp3) .nil, shaped_I bv, by decide, _, rfl, ?_⟩
        rw [eqv_nil]
        by_cases hb : bv = []
        case neg =>
          rw [decide_eq_false hb]
          exact iteT (bad s5 fun h => hb (eb.mpr (h.1.2.1 row (List.mem_of_getElem? er)).2))
        rw [decide_eq_true hb]
        refine iteF ?_
        refine nx_go ?_
        refine ⟨.ref q', rfl, .int (i : Nat), rfl, q', zs, (i : Nat), .ref qt, rfl, rfl, SqL.of (s5 _ _ hzs), atI_nat yt, .ref q', rfl, .int (i : Nat), rfl, q', zs, (i : Nat), .ref qt, rfl, rfl, SqL.of (s5 _ _ hzs), atI_nat yt, qt, tw, rfl, .inr (SqL.of (s5 _ _ zt)), by omega, fun a3 L3 ha3 lL3 mem3 => ?_⟩
        refine ⟨a3, L3, rfl, upd_same, by omega, fun ys pn3 pm3 nd3 so3 hpn3 => ?_⟩
        have same3 : ∀ (o o2 : HO), Same H (upd (upd G6 a3 o) pn3 o2) := fun o o2 => (s5.new ha3).new ((upd_ne (nul hpn3).1).trans (nul hpn3).2)
        have mem4 : ∀ x, x ∈ ys ↔ x ∈ tw := fun x => (pm3.mem_iff).trans (mem3 x)
        have ascY : ∀ x ∈ ys, ∀ c ∈ x.cps.toList, c < 128 := fun x m => (isW_ascii (ltw.2 x ((mem4 x).mp m))).2
        have ascT : ∀ x ∈ tw, ∀ c ∈ x.cps.toList, c < 128 := fun x m => (isW_ascii (ltw.2 x m)).2
        refine ⟨_, _, .lst (SqL.of (same3 _ _ _ _ zt)) (dp_strs tw), .lst (SqL.of upd_same) (dp_strs ys), shaped_S ascT, shaped_S ascY, _, rfl, ?_⟩
        rw [eqv_strs]
        generalize eG3 : upd (upd G6 a3 _) pn3 (HO.lst (ys.map V.str)) = G8
        have s8 : Same H G8 := eG3 ▸ same3 _ _
        clear eG3
        by_cases ht : tw.Pairwise ltS
        · rw [decide_eq_true ((asc_ltS_one so3 nd3 mem4).mpr ht)]
          refine iteF ⟨⟨_, _, _, _, _, rfl⟩, fun w2 r2 hw2 hr2 => ?_, fun w2 t2 hw2 ht2 => ?_, s8⟩
          · rcases Nat.lt_or_ge w2 i with lt | ge
            · exact ok1 w2 r2 lt hr2
            · obtain rfl : w2 = i := by omega
              rw [er] at hr2
              cases hr2
              exact ⟨hasc, hw, eb.mp hb⟩
          · rcases Nat.lt_or_ge w2 i with lt | ge
            · exact ok2 w2 t2 lt ht2
            · obtain rfl : w2 = i := by omega
              rw [et] at ht2
              cases ht2
              exact ht
        · rw [decide_eq_false (fun e => ht ((asc_ltS_one so3 nd3 mem4).mp e))]
          exact iteT (bad s8 fun h => ht (h.2.2.1 tw (List.mem_of_getElem? et)).1)
    · obtain ⟨⟨s3, s4, s5, s6, s7, rfl⟩, ok1, ok2, s1⟩ := hP
      dsimp only
      refine ⟨.int (rs.length : Nat), rfl, (rs.length : Int), rfl, by omega, by omega, ?_⟩
      rw [Int.toNat_natCast]
      refine for_range (lo := 0) (n := rs.length) (fun i σ' H' => (∃ s3 s4 s5 s6 s7, σ' = [some (.ref p), some (.ref q'), some (.int (rs.length : Nat)), s3, s4, s5, s6, s7]) ∧ (∀ (w : Nat) (row : List Nat), w < i → rs[w]? = some row → ∀ o ∈ row, ∀ ro, rs[o]? = some ro → (o ≠ w → w ∉ ro) ∧ (∀ x ∈ ro, x ∈ row) ∧ ∀ tw to, ts[w]? = some tw → ts[o]? = some to → ∀ x ∈ tw, x ∈ to) ∧ Same H H') ⟨⟨_, _, _, _, _, rfl⟩, (fun w row h => by omega), s1⟩ (fun i σ' H' hi hP => ?_) (fun σ' H' hP => ?_)
      · obtain ⟨⟨s3, s4, s5, s6, s7, rfl⟩, ok3, s2⟩ := hP
        rw [show (0 : Int) + (i : Nat) = ((i : Nat) : Int) by omega]
        show tFor _ _ _ _ _ _
        dsimp only [List.set]
        have er := List.getElem?_eq_getElem hi
        generalize erow : rs[i] = row at er
        have et := List.getElem?_eq_getElem (show i < ts.length by omega)
        generalize etw : ts[i]'(show i < ts.length by omega) = tw at et
        obtain ⟨qw, yw, zw, _⟩ := atx i (VI row) (by unfold WI; rw [List.getElem?_map, er]; rfl)
        obtain ⟨qt, yt, zt, _⟩ := atz i (tw.map V.str) (by unfold WS; rw [List.getElem?_map, et]; rfl)
        have lrow := rl row (List.mem_of_getElem? er)
        have ltw := tl tw (List.mem_of_getElem? et)
        refine ⟨.ref p, rfl, .int (i : Nat), rfl, p, xs, (i : Nat), .ref qw, rfl, rfl, SqL.of (s2 _ _ hxs), atI_nat yw, qw, rfl, ⟨_, SqL.of (s2 _ _ zw)⟩, for_list (xs := VI row) (fun j σ' H' => (∃ s4 s5 s6 s7, σ' = [some (.ref p), some (.ref q'), some (.int (rs.length : Nat)), some (.int (i : Nat)), s4, s5, s6, s7]) ∧ (∀ o ∈ row.take j, ∀ ro, rs[o]? = some ro → (o ≠ i → i ∉ ro) ∧ (∀ x ∈ ro, x ∈ row) ∧ ∀ to, ts[o]? = some to → ∀ x ∈ tw, x ∈ to) ∧ Same H H')
          ⟨⟨_, _, _, _, rfl⟩, (fun o m => by cases m), s2⟩ (fun j σ' H' _ hP => SqL.of (hP.2.2 _ _ zw)) (fun j y σ' H' hy hP => ?_) (fun σ' H' hP => ?_)⟩
        · obtain ⟨⟨s4, s5, s6, s7, rfl⟩, ok4, s3'⟩ := hP
          obtain ⟨o, eo, rfl⟩ := vi_at hy
          have om := List.mem_of_getElem? eo
          have oLt := (ok1 i row hi er).2.2 o om
          have ero := List.getElem?_eq_getElem oLt
          generalize rs[o] = ro at ero
          have eto := List.getElem?_eq_getElem (show o < ts.length by omega)
          generalize ts[o]'(show o < ts.length by omega) = to at eto
          obtain ⟨qo, yo, zo, _⟩ := atx o (VI ro) (by unfold WI; rw [List.getElem?_map, ero]; rfl)
          obtain ⟨qu, yu, zu, _⟩ := atz o (to.map V.str) (by unfold WS; rw [List.getElem?_map, eto]; rfl)
          have lro := rl ro (List.mem_of_getElem? ero)
          show tSeq _ _ _ _ _
          dsimp only [List.set]
          refine ⟨.int (o : Nat), rfl, .int (i : Nat), rfl, rfl, _, rfl, ?_⟩
          by_cases hbad : o ≠ i ∧ i ∈ ro
          case pos =>
            rw [decide_eq_false (show ¬ V.int ((o : Nat) : Int) = V.int ((i : Nat) : Int) from fun e => hbad.1 (by have := V.int.inj e; omega))]
            refine iteT ⟨.int (i : Nat), rfl, .ref p, rfl, .int (o : Nat), rfl, p, xs, (o : Nat), .ref qo, rfl, rfl, SqL.of (s3' _ _ hxs), atI_nat yo, qo, VI ro, rfl, .inl (SqL.of (s3' _ _ zo)), rfl, vi_flat ro, _, rfl, ?_⟩
            rw [if_neg (by decide), inV_vi, decide_eq_true hbad.2]
            exact iteT (bad s3' fun h => (h.1.2.2 i row er).2 o om ro ero |>.2 hbad.1 hbad.2)
          refine or_else ?_ (fun y hc => ⟨.int (i : Nat), rfl, .ref p, rfl, .int (o : Nat), rfl, p, xs, (o : Nat), .ref qo, rfl, rfl, SqL.of (s3' _ _ hxs), atI_nat yo, qo, VI ro, rfl, .inl (SqL.of (s3' _ _ zo)), rfl, vi_flat ro, _, rfl, ?_⟩)
          case refine_2 =>
            have ne : o ≠ i := fun e => by
              rw [e] at hc
              rw [decide_eq_true rfl] at hc
              cases hc
            rw [if_neg (by decide), inV_vi, decide_eq_false (fun m => hbad ⟨ne, m⟩)]
            exact iteF y
          refine nx_go ?_
          refine ⟨.ref p, rfl, .int (o : Nat), rfl, p, xs, (o : Nat), .ref qo, rfl, rfl, SqL.of (s3' _ _ hxs), atI_nat yo, qo, rfl, ⟨_, SqL.of (s3' _ _ zo)⟩, fun D hD => lc_list (xs := VI ro) (fun k H2 => (∃ bv : List Nat, H2 D = some (.lst (VI bv)) ∧ bv.length ≤ k ∧ (bv = [] ↔ ∀ n ∈ ro.take k, n ∈ row)) ∧ Same H' H2) ⟨⟨[], upd_same, Nat.le_refl _, ⟨fun _ o m => (by cases m), fun _ => rfl⟩⟩, (Same.refl H').mut hD⟩ (fun k H2 _ hP => SqL.of (hP.2 _ _ (s3' _ _ zo))) (fun k y H2 hy hP => ?_) (fun H2 hP => ⟨Nat.zero_le _, fun p2 hp2 => ?_⟩)⟩
          · obtain ⟨⟨bv, hD1, lb, eb⟩, s4⟩ := hP
            obtain ⟨n, en, rfl⟩ := vi_at hy
            have lk := lt_of_get en
            have s5 := s3'.trans s4
            refine ⟨rfl, ?_⟩
            refine ⟨.int (n : Nat), rfl, .ref p, rfl, .int (i : Nat), rfl, p, xs, (i : Nat), .ref qw, rfl, rfl, SqL.of (s5 _ _ hxs), atI_nat yw, qw, VI row, rfl, .inl (SqL.of (s5 _ _ zw)), rfl, vi_flat row, _, rfl, ?_⟩
            rw [if_pos rfl, inV_vi]
            by_cases hx : n ∈ row
            · rw [decide_eq_true hx]
              refine iteF ⟨⟨bv, hD1, by omega, eb.trans ⟨fun h o2 m => ?_, fun h o2 m => h o2 (by rw [take_next en]; exact List.mem_append_left _ m)⟩⟩, s4⟩
              rw [take_next en] at m
              rcases List.mem_append.mp m with m | m
              · exact h o2 m
              · rw [List.mem_singleton.mp m]
                exact hx
            · rw [decide_eq_false hx]
              exact iteT ⟨.int (n : Nat), rfl, _, hD1, lt_line' (by rw [vi_len]; omega), ⟨bv ++ [n], by rw [upd_same]; unfold VI; rw [List.map_append]; rfl, by rw [List.length_append, List.length_singleton]; omega, ⟨fun h => absurd h (by simp), fun h => absurd (h n (by rw [take_next en]; exact List.mem_append_right _ (List.mem_singleton.mpr rfl))) hx⟩⟩, s4.mut hD⟩
          obtain ⟨⟨bv, hD1, lb, eb⟩, s4⟩ := hP
          rw [vi_len, List.take_length] at eb
          have s5 := (s3'.trans s4).new (o := .lst []) hp2
          have hD2 := (upd_ne (o := .lst []) (ne_of_none hD1 hp2)).trans hD1
          have hp3 : upd H2 p2 (.lst []) p2 = some (.lst []) := upd_same
          generalize upd H2 p2 (.lst []) = G6 at s5 hD2 hp3 ⊢
          refine ⟨_, _, .lst (SqL.of hD2) (dp_vi bv), .lst (SqL.of hp3) .nil, shaped_I bv, by decide, _, rfl, ?_⟩
          rw [eqv_nil]
          by_cases hb : bv = []
          case neg =>
            rw [decide_eq_false hb]
            exact iteT (bad s5 fun h => hb (eb.mpr ((h.1.2.2 i row er).2 o om ro ero).1))
          rw [decide_eq_true hb]
          refine iteF (nx_go ?_)
          refine ⟨.ref q', rfl, .int (i : Nat), rfl, q', zs, (i : Nat), .ref qt, rfl, rfl, SqL.of (s5 _ _ hzs), atI_nat yt, qt, rfl, ⟨_, SqL.of (s5 _ _ zt)⟩, fun D hD => lc_list (xs := tw.map V.str) (fun k H2 => (∃ bv : List Str, H2 D = some (.lst (bv.map V.str)) ∧ bv.length ≤ k ∧ (∀ x ∈ bv, x ∈ tw) ∧ (bv = [] ↔ ∀ n ∈ tw.take k, n ∈ to)) ∧ Same G6 H2) ⟨⟨[], upd_same, Nat.le_refl _, (fun x m => by cases m), ⟨fun _ o m => (by cases m), fun _ => rfl⟩⟩, (Same.refl G6).mut hD⟩ (fun k H2 _ hP => SqL.of (hP.2 _ _ (s5 _ _ zt))) (fun k y H2 hy hP => ?_) (fun H2 hP => ⟨Nat.zero_le _, fun p2 hp2 => ?_⟩)⟩
          · obtain ⟨⟨bv2, hD1, lb, inT, eb2⟩, s4⟩ := hP
            obtain ⟨n, en, rfl⟩ := str_at hy
            have lk := lt_of_get en
            have s7 := s5.trans s4
            refine ⟨rfl, ?_⟩
            refine ⟨.str n, rfl, .ref q', rfl, .int (o : Nat), rfl, q', zs, (o : Nat), .ref qu, rfl, rfl, SqL.of (s7 _ _ hzs), atI_nat yu, qu, to.map V.str, rfl, .inl (SqL.of (s7 _ _ zu)), rfl, str_flat to, _, rfl, ?_⟩
            rw [if_pos rfl, inV_strs]
            by_cases hx : n ∈ to
            · rw [decide_eq_true hx]
              refine iteF ⟨⟨bv2, hD1, by omega, inT, eb2.trans ⟨fun h o2 m => ?_, fun h o2 m => h o2 (by rw [take_next en]; exact List.mem_append_left _ m)⟩⟩, s4⟩
              rw [take_next en] at m
              rcases List.mem_append.mp m with m | m
              · exact h o2 m
              · rw [List.mem_singleton.mp m]
                exact hx
            · rw [decide_eq_false hx]
              refine iteT ⟨.str n, rfl, _, hD1, lt_line' (by rw [List.length_map]; omega), ⟨bv2 ++ [n], by rw [upd_same, List.map_append]; rfl, by rw [List.length_append, List.length_singleton]; omega, fun x m => ?_, ⟨fun h => absurd h (by simp), fun h => absurd (h n (by rw [take_next en]; exact List.mem_append_right _ (List.mem_singleton.mpr rfl))) hx⟩⟩, s4.mut hD⟩
              rcases List.mem_append.mp m with m | m
              · exact inT x m
              · rw [List.mem_singleton.mp m]
                exact List.mem_of_getElem? en
          obtain ⟨⟨bv2, hD1, lb2, inT, eb2⟩, s4⟩ := hP
          rw [List.length_map, List.take_length] at eb2
          have s7 := (s5.trans s4).new (o := .lst []) hp2
          have hD2 := (upd_ne (o := .lst []) (ne_of_none hD1 hp2)).trans hD1
          have hp3 : upd H2 p2 (.lst []) p2 = some (.lst []) := upd_same
          generalize upd H2 p2 (.lst []) = G8 at s7 hD2 hp3 ⊢
          refine ⟨_, _, .lst (SqL.of hD2) (dp_strs bv2), .lst (SqL.of hp3) .nil, shaped_S (fun x m => (isW_ascii (ltw.2 x (inT x m))).2), by decide, _, rfl, ?_⟩
          rw [eqv_nilS]
          by_cases hb2 : bv2 = []
          case neg =>
            rw [decide_eq_false hb2]
            exact iteT (bad s7 fun h => hb2 (eb2.mpr (h.2.2.2 i row er o om tw to et eto)))
          rw [decide_eq_true hb2]
          refine iteF ⟨⟨_, _, _, _, rfl⟩, fun o2 m ro2 hro2 => ?_, s7⟩
          rw [take_next eo] at m
          rcases List.mem_append.mp m with m | m
          · exact ok4 o2 m ro2 hro2
          · rw [List.mem_singleton.mp m] at hro2 ⊢
            rw [ero] at hro2
            cases hro2
            exact ⟨fun ne mi => hbad ⟨ne, mi⟩, eb.mp hb, fun to2 e2 => by rw [eto] at e2; cases e2; exact eb2.mp hb2⟩
        · obtain ⟨⟨s4, s5, s6, s7, rfl⟩, ok4, s3'⟩ := hP
          rw [vi_len, List.take_length] at ok4
          refine ⟨⟨_, _, _, _, _, rfl⟩, fun w2 r2 hw2 hr2 o ho ro hro => ?_, s3'⟩
          rcases Nat.lt_or_ge w2 i with lt | ge
          · exact ok3 w2 r2 lt hr2 o ho ro hro
          · obtain rfl : w2 = i := by omega
            rw [er] at hr2
            cases hr2
            obtain ⟨a1, a2, a3⟩ := ok4 o ho ro hro
            exact ⟨a1, a2, fun tw2 to e1 e2 => by rw [et] at e1; cases e1; exact a3 to e2⟩
      · obtain ⟨⟨s3, s4, s5, s6, s7, rfl⟩, ok3, s2⟩ := hP
        refine q true H' ⟨fun _ => ⟨⟨⟨n1, by omega⟩, fun row m => ?_, fun w row hw => ?_⟩, ⟨el, fun tw m => ?_, fun w row hw o ho tw to e1 e2 => ?_⟩⟩, fun _ => rfl⟩ s2
        · obtain ⟨w, hw⟩ := List.mem_iff_getElem?.mp m
          obtain ⟨a1, a2, a3⟩ := ok1 w row (lt_of_get hw) hw
          exact ⟨a1, a3⟩
        · refine ⟨(ok1 w row (lt_of_get hw) hw).2.1, fun o ho ro hro => ?_⟩
          obtain ⟨a1, a2, a3⟩ := ok3 w row (lt_of_get hw) hw o ho ro hro
          exact ⟨a2, a1⟩
        · obtain ⟨w, hw⟩ := List.mem_iff_getElem?.mp m
          exact ⟨ok2 w tw (by rw [← el]; exact lt_of_get hw) hw, (tl tw m).2⟩
        · have lo := (ok1 w row (lt_of_get hw) hw).2.2 o ho
          exact (ok3 w row (lt_of_get hw) hw o ho _ (List.getElem?_eq_getElem lo)).2.2 tw to e1 e2
end


end My
namespace My
open PySem PySem.Spec PyProof.Rows L2 TL
set_option pp.maxSteps 3000
set_option pp.deepTerms false
section
variable {P : Program} {w : World} {K : PySem.W.Frag} {mg : Str → Option Value} {base : Heap} {C_Room C_InvalidRoom : Addr}
theorem exm_self {K : PySem.W.Frag} {mg : Str → Option Value} {x : Str} {C : Addr} (e : ErrT K mg x C) : PySem.W.exmOne K (.ref C) (.ref C) = some true := by
  have q := e.exc
  unfold PySem.W.excIn at q
  split at q
  · rename_i cd sl hk
    split at q
    · rename_i C2 bm _ _ _ _ _ _ hm _
      simp only [Bool.and_eq_true] at q
      have e1 : C2 = C := beq_iff_eq.mp q.1.1.1.1.1
      have hc : PySem.W.clsIn K C = some cd := by
        unfold PySem.W.clsIn
        rw [hk]
      have sub : PySem.W.subIn K (.ref C) (.ref C) = some true := by
        show (PySem.W.clsIn K C).bind (fun cd => if cd.mro.isEmpty then none else some (cd.mro.contains (.ref C))) = some true
        rw [hc, Option.bind_some, hm, e1]
        simp
      unfold PySem.W.exmOne
      rw [if_pos (by rw [e.b]; rfl)]
      show (if ((PySem.W.clsIn K C).isSome && PySem.W.typeIn K (.ref C) == some (.type "type")) = true then PySem.W.subIn K (.ref C) (.ref C) else none) = some true
      rw [if_pos (by rw [hc, e.t]; rfl), sub]
    · cases q
  · cases q

def sp__law_is_made (K : PySem.W.Frag) : Sp := fun vs H Q _ => ∃ v1 v2 o t, vs = [v1, v2] ∧ OrdV K H v1 o ∧ TruV K H v2 t ∧ ∀ b H', (b = true ↔ RoomO o t) → Same H H' → Q (.bl b) H'
theorem OrdV.same {K : PySem.W.Frag} {H H' : Hp} (s : Same H H') {v : V} : ∀ {o : Option (List (Option (List Nat)))}, OrdV K H v o → OrdV K H' v o
  | some o, ⟨p, xs, e, h, r, l⟩ => ⟨p, xs, e, s _ _ h, r.same s, l⟩
  | none, ⟨t, h, k⟩ => ⟨t, fun H2 s2 => h H2 (s.trans s2), k⟩
theorem TruV.same {K : PySem.W.Frag} {H H' : Hp} (s : Same H H') {v : V} : ∀ {o : Option (List (Option (List Str)))}, TruV K H v o → TruV K H' v o
  | some o, ⟨p, xs, e, h, r, l⟩ => ⟨p, xs, e, s _ _ h, r.same s, l⟩
  | none, ⟨t, h, k⟩ => ⟨t, fun H2 s2 => h H2 (s.trans s2), k⟩
theorem ok__law_is_made (T : Txt K mg C_Room) (e_InvalidRoom : ErrT K mg "InvalidRoom" C_InvalidRoom) (m_Room___len__ : MetC P w K mg base C_Room "__len__" 1 ["self"] (sp_Room___len__ K C_Room)) (i_Room___init__X : MakX P w K mg base C_Room 4 ["self", "reach", "truths"] (sp_Room_initX K C_Room C_InvalidRoom)) {f : Addr} {fd : FuncData} (F : Fun K "_law_is_made" "_law_is_made" s__law_is_made f fd) : FnOkG P w K mg base CX0 6 f fd ["_law_reach", "_law_truths"] (sp__law_is_made K) := by
  have nd := sc__law_is_made.nd
  refine F.okG sc__law_is_made (fun vs H Q E h => ?_) (fun cdv A outer s H vs Q E hr hG h => ?_)
  · obtain ⟨v1, v2, o, t, rfl, _⟩ := h
    rfl
  · obtain ⟨v1, v2, o, t, rfl, ho, ht, q⟩ := h
    refine ⟨_, pss_one (ps_try_only (c := .ref C_InvalidRoom) (tb := fun W => tRet (tOp (rI0 fun i j => .bl (decide (j < i))) (tCB (rLenO C_Room (sp_Room___len__ K C_Room)) (tCons (tMake C_Room (sp_Room_initX K C_Room C_InvalidRoom) [] (fun cls d H => ∀ σ, W cls d σ H) (tCons (tVar 0) (tCons (tVar 1) tNil))) tNil)) (tC (.int 0)))) rfl rfl ⟨rfl, by decide, .inl e_InvalidRoom.g⟩ takes0
      (fun W pn xe tk _ => pss_one (ps_ret (pe_cmpR op_gt (pe_callB (call_lenO m_Room___len__ (hr.mono (by first | decide | omega))) (by rfl) T.b_len (by decide +kernel) (pa_cons (pe_makeX (E := fun cls d H => ∀ σ, W cls d σ H) i_Room___init__X (hr.mono (by first | decide | omega)) rfl T.c_Room (passes_call tk fun _ _ σ _ h => h σ) (pa_cons (pv 0) (pa_cons (pv 1) pa_nil))) pa_nil)) pe_int (nomark _))))
      (fun a oe cls d pn _ _ => pss_one (ps_ret pe_bl))), ?_⟩
    refine ⟨v1, rfl, v2, rfl, fun x dx hx hdx nxd => ?_⟩
    have s0 : Same H (upd H dx (.own x)) := (Same.refl H).new hdx
    have s1 : Same H (upd (upd H dx (.own x)) x (.ins C_Room dx [])) := s0.new ((upd_ne (Ne.symm nxd)).trans hx)
    have hx1 : upd (upd H dx (.own x)) x (.ins C_Room dx []) x = some (.ins C_Room dx []) := upd_same
    generalize upd (upd H dx (.own x)) x (.ins C_Room dx []) = G at s1 hx1 ⊢
    refine ⟨x, dx, v1, v2, o, t, rfl, hx1, ho.same s1, ht.same s1, fun no H' s2 => ?_, ?_⟩
    · intro σ
      exact ⟨true, exm_self e_InvalidRoom, fun _ a _ => q false H' ⟨fun z => (by cases z), fun z => absurd z no⟩ (s1.trans s2), fun q => nomatch q⟩
    · intro rs ts e1 e2 ord tru p1 p2 xs1 xs2 f1 f2 h1 h2 rw ab ps H' keep hx' hrw lps at'
      subst e1 e2 f1 f2
      refine ⟨rfl, ?_⟩
      have nt : ∀ {b ys}, G b = some (.tup ys) → b ≠ x := fun h => ne_of h hx1 (fun z => nomatch z)
      obtain ⟨_, _, g1, g2, v1, _⟩ := ho.same s1
      obtain ⟨_, _, g3, g4, v2, _⟩ := ht.same s1
      cases g1
      cases g3
      rw [h1] at g2
      rw [h2] at g4
      cases g2
      cases g4
      have rv : RowsV K H' xs1 (rs.map some) := ⟨v1.1, fun i y e => by
        obtain ⟨r, hr, hv⟩ := v1.2 i y e
        rw [List.getElem?_map] at hr
        obtain ⟨row, er, rfl⟩ := Option.map_eq_some_iff.mp hr
        obtain ⟨qd, rfl, hq, l⟩ := hv
        exact ⟨some row, by rw [List.getElem?_map, er]; rfl, qd, rfl, keep _ _ (nt hq) hq, l⟩⟩
      have rs' : RowsS K H' xs2 (ts.map some) := ⟨v2.1, fun i y e => by
        obtain ⟨r, hr, hv⟩ := v2.2 i y e
        rw [List.getElem?_map] at hr
        obtain ⟨row, er, rfl⟩ := Option.map_eq_some_iff.mp hr
        obtain ⟨qd, rfl, hq, l⟩ := hv
        exact ⟨some row, by rw [List.getElem?_map, er]; rfl, qd, rfl, keep _ _ (nt hq) hq, l⟩⟩
      have rm : IsRm K C_Room H' (.ref x) rs ts := ⟨⟨x, dx, p1, p2, rw, ab, xs1, xs2, ps, rfl, hx', keep _ _ (nt h1) h1, rv, keep _ _ (nt h2) h2, rs', hrw, lps, at'⟩, ord, tru⟩
      have s3 : Same H H' := fun b o hb => keep b o (fun e => by rw [e, hx] at hb; cases hb) (s1 b o hb)
      refine ⟨x, dx, _, rfl, hx', .ref x, rs, ts, rfl, rm, rs.length, rfl, by have := ord.1; omega, (rs.length : Nat), 0, rfl, rfl, ?_⟩
      refine q _ H' ⟨fun _ => ⟨rs, ts, rfl, rfl, ord, tru⟩, fun _ => decide_eq_true ?_⟩ s3
      have := ord.1.1
      omega

end

end My
namespace My
open PySem PySem.Spec PyProof.Rows L2 TL
set_option pp.maxSteps 3000
set_option pp.deepTerms false
/-! ### the law: a room bent -/
def abc : List Str := ["a", "b", "c"]
/-- what a bent room keeps to -/
structure Bnt (rs : List (List Nat)) (ts : List (List Str)) : Prop where
  l1 : rs.length ≤ 5
  l2 : ts.length ≤ 5
  r : ∀ r ∈ rs, r.length ≤ 10 ∧ ∀ n ∈ r, n ≤ 10
  t : ∀ t ∈ ts, t.length ≤ 10 ∧ ∀ x ∈ t, x ∈ abc
def sp__law_bent (_ : PySem.W.Frag) : Sp := fun vs H Q _ => ∃ (d a : Addr) (rs : List (List Nat)) (ts : List (List Str)), vs = [.ref d, .ref a] ∧ IsDice H d ∧ RoomD H [d] a rs ts ∧ 1 ≤ rs.length ∧ rs.length ≤ 5 ∧ ts.length = rs.length ∧ (∀ r ∈ rs, r ≠ [] ∧ r.length ≤ 5 ∧ ∀ n ∈ r, n ≤ 5) ∧ (∀ t ∈ ts, t.length ≤ 3 ∧ ∀ x ∈ t, x ∈ abc) ∧
  ∀ l p q rs2 ts2 H', Ext d H H' → IsDice H' d → H' l = some (.lst [.ref p, .ref q]) → RowsX H' p [d] (WI rs2) → RowsX H' q [d] (WS ts2) → Bnt rs2 ts2 → l ≠ d → p ≠ d → q ≠ d → Q (.ref l) H'
/-- rows of their own -/
def RowsN (H : Hp) (l : Addr) (no : List Addr) (rows : List (List V)) : Prop := ∃ qs : List Addr, H l = some (.lst (qs.map V.ref)) ∧ qs.length = rows.length ∧ qs.Nodup ∧ (∀ q ∈ qs, q ∉ no) ∧ ∀ (i : Nat) (q : Addr) (row : List V), qs[i]? = some q → rows[i]? = some row → H q = some (.lst row)
theorem RowsN.x {H : Hp} {l : Addr} {no : List Addr} {rows : List (List V)} (h : RowsN H l no rows) : RowsX H l no rows := by
  obtain ⟨qs, h1, h2, h3, h4, h5⟩ := h
  exact ⟨qs, h1, h2, h4, h5⟩
theorem RowsN.keep {H H' : Hp} {l : Addr} {no : List Addr} {rows : List (List V)} (h : RowsN H l no rows) (hl : ∀ o, H l = some o → H' l = some o) (k : ∀ q, q ∉ no → ∀ o, H q = some o → H' q = some o) : RowsN H' l no rows := by
  obtain ⟨qs, h1, h2, h3, h4, h5⟩ := h
  exact ⟨qs, hl _ h1, h2, h3, h4, fun i q row e1 e2 => k q (h4 q (List.mem_of_getElem? e1)) _ (h5 i q row e1 e2)⟩
/-- one row changed in its place -/
theorem RowsN.inner {H : Hp} {l : Addr} {no : List Addr} {rows : List (List V)} {xs : List V} {i : Nat} {q : Addr} {row : List V} (h : RowsN H l no rows) (hx : H l = some (.lst xs)) (e : xs[i]? = some (.ref q)) (hl : l ∈ no) : RowsX (upd H q (.lst row)) l no (rows.set i row) := by
  obtain ⟨qs, h1, h2, h3, h4, h5⟩ := h
  rw [h1] at hx
  obtain rfl : qs.map V.ref = xs := by cases hx; rfl
  rw [List.getElem?_map] at e
  obtain ⟨q', eq, e'⟩ := Option.map_eq_some_iff.mp e
  obtain rfl : q' = q := V.ref.inj e'
  have nq : q' ∉ no := h4 q' (List.mem_of_getElem? eq)
  refine ⟨qs, (upd_ne (fun z => nq (by rw [← z]; exact hl))).trans h1, by rw [List.length_set]; exact h2, h4, fun j u r e1 e2 => ?_⟩
  rcases set_at e2 with ⟨rfl, rfl⟩ | ⟨ne, e2⟩
  · rw [eq] at e1
    cases e1
    exact upd_same
  · have nu : u ≠ q' := fun z => by
      rw [z] at e1
      have l1 := lt_of_get e1
      have l2 := lt_of_get eq
      rw [List.getElem?_eq_getElem l1] at e1
      rw [List.getElem?_eq_getElem l2] at eq
      exact ne ((List.getElem_inj h3).mp ((Option.some.inj e1).trans (Option.some.inj eq).symm))
    rw [upd_ne nu]
    exact h5 j u r e1 e2
/-- another list's own row changed -/
theorem RowsX.apart {H : Hp} {l q : Addr} {no : List Addr} {rows : List (List V)} {o : HO} (h : RowsX H l no rows) (hl : l ≠ q) (far : ∀ (xs : List V), H l = some (.lst xs) → V.ref q ∉ xs) : RowsX (upd H q o) l no rows := by
  obtain ⟨qs, h1, h2, h3, h4⟩ := h
  refine ⟨qs, (upd_ne hl).trans h1, h2, h3, fun i u r e1 e2 => ?_⟩
  have nu : u ≠ q := fun z => far _ h1 (List.mem_map.mpr ⟨u, List.mem_of_getElem? e1, by rw [z]⟩)
  rw [upd_ne nu]
  exact h4 i u r e1 e2
theorem erase_map {α : Type} (f : α → V) : ∀ (l : List α) (k : Nat), (l.map f).eraseIdx k = (l.eraseIdx k).map f
  | [], _ => rfl
  | _ :: _, 0 => rfl
  | x :: l, k + 1 => by
    show f x :: (l.map f).eraseIdx k = f x :: (l.eraseIdx k).map f
    rw [erase_map f l k]
theorem wi_erase : ∀ (l : List (List Nat)) (k : Nat), (WI l).eraseIdx k = WI (l.eraseIdx k)
  | [], _ => rfl
  | _ :: _, 0 => rfl
  | x :: l, k + 1 => by
    show VI x :: (WI l).eraseIdx k = VI x :: WI (l.eraseIdx k)
    rw [wi_erase l k]
theorem RowsX.erase {H : Hp} {l : Addr} {no : List Addr} {rows : List (List V)} {xs : List V} {i : Nat} (h : RowsX H l no rows) (hx : H l = some (.lst xs)) (hl : l ∈ no) (lt : i < rows.length) : RowsX (upd H l (.lst (xs.eraseIdx i))) l no (rows.eraseIdx i) := by
  obtain ⟨qs, h1, h2, h3, h4⟩ := h
  rw [h1] at hx
  obtain rfl : qs.map V.ref = xs := by cases hx; rfl
  refine ⟨qs.eraseIdx i, by rw [upd_same, erase_map], by rw [List.length_eraseIdx, List.length_eraseIdx, h2], fun q m => h3 q (List.mem_of_mem_eraseIdx m), fun j q r e1 e2 => ?_⟩
  have nq : q ≠ l := fun e => h3 q (List.mem_of_mem_eraseIdx (List.mem_of_getElem? e1)) (by rw [e]; exact hl)
  rw [upd_ne nq]
  rw [List.getElem?_eraseIdx] at e1 e2
  by_cases c : j < i
  · rw [if_pos c] at e1 e2
    exact h4 j q r e1 e2
  · rw [if_neg c] at e1 e2
    exact h4 (j + 1) q r e1 e2
theorem share {T A : Hp → Prop} {C : Prop} (h1 : ∀ G, A G → T G) (h2 : (∀ G, A G → T G) → C) : C := h2 h1
theorem cut_any {t u : TS} {D : Ends} {σ : L2.St} {H : Hp} (PS' : L2.St → Hp → Prop) (h : ∀ N : L2.St → Hp → Prop, (∀ σ' H', PS' σ' H' → N σ' H') → t { D with nx := N } σ H) (k : ∀ σ' H', PS' σ' H' → u D σ' H') : tSeq t u D σ H := h _ k
section
variable {P : Program} {w : World} {K : PySem.W.Frag} {mg : Str → Option Value} {base : Heap} {C_Room : Addr}
theorem ok__law_bent (T : Txt K mg C_Room) (c__law_roll : Cal P w K mg base "_law_roll" 1 ["_law_dice_here", "_law_total"] (sp__law_roll K)) (c__law_pick : Cal P w K mg base "_law_pick" 2 ["_law_dice_here", "_law_items"] (sp__law_pick K)) {f : Addr} {fd : FuncData} (F : Fun K "_law_bent" "_law_bent" s__law_bent f fd) : FnOkG P w K mg base CX0 3 f fd ["_law_dice_here", "_law_room_here"] (sp__law_bent K) := by
  have nd := sc__law_bent.nd
  refine F.okG sc__law_bent (fun vs H Q E h => ?_) (fun cdv A outer s H vs Q E hr hG h => ?_)
  · obtain ⟨d, a, rs, ts, rfl, _⟩ := h
    rfl
  · obtain ⟨d, a, rs, ts, rfl, hd, rd, n1, l5, lt, rb, tb, q⟩ := h
    refine ⟨_, (pss_cons (ps_par (i := 2) (j := 3) (by rfl) nd rfl rfl (by decide) rfl rfl (pa_cons (pe_lcD (own := [("_law_row", 7)]) (by rfl) nd (pi_list (pe_dget (by first | exact Nat.lt_of_le_of_lt (Nat.add_le_add_left (by decide : 1 ≤ 64) _) hr.units | exact Nat.lt_of_le_of_lt (Nat.add_le_add_left (by decide : 4 ≤ 64) _) hr.units | exact Nat.lt_of_le_of_lt (Nat.add_le_add_left (by decide : 7 ≤ 64) _) hr.units) (pv 1) pe_str (fun _ _ => rfl))) (blkOk_by (own := [("_law_row", 7)]) (N := ["_law_dice_here", "_law_room_here", "_law_reach", "_law_truths", "_law_world", "_law_way", "_law_other", "_law_row"]) (sc := (defScope s__law_bent)) (by decide +kernel)) (fun _ _ _ _ _ => pg_name (i := 7) nd rfl (Or.inl rfl)) (fun _ _ _ _ _ => pts_nil) (fun _ _ _ _ _ => (pe_callTy call_list_of (by rfl) T.b_list (by decide +kernel) (pa_cons (pv 7) pa_nil)))) (pa_cons (pe_lcD (own := [("_law_row", 7)]) (by rfl) nd (pi_list (pe_dget (by first | exact Nat.lt_of_le_of_lt (Nat.add_le_add_left (by decide : 1 ≤ 64) _) hr.units | exact Nat.lt_of_le_of_lt (Nat.add_le_add_left (by decide : 4 ≤ 64) _) hr.units | exact Nat.lt_of_le_of_lt (Nat.add_le_add_left (by decide : 7 ≤ 64) _) hr.units) (pv 1) pe_str (fun _ _ => rfl))) (blkOk_by (own := [("_law_row", 7)]) (N := ["_law_dice_here", "_law_room_here", "_law_reach", "_law_truths", "_law_world", "_law_way", "_law_other", "_law_row"]) (sc := (defScope s__law_bent)) (by decide +kernel)) (fun _ _ _ _ _ => pg_name (i := 7) nd rfl (Or.inl rfl)) (fun _ _ _ _ _ => pts_nil) (fun _ _ _ _ _ => (pe_callTy call_list_of (by rfl) T.b_list (by decide +kernel) (pa_cons (pv 7) pa_nil)))) pa_nil)) (by rfl))
      (pss_cons (ps_par (i := 4) (j := 5) (by rfl) nd rfl rfl (by decide) rfl rfl (pa_cons (pe_callC c__law_roll (hr.mono (by first | decide | omega)) hG rfl (pa_cons (pv 0) (pa_cons (pe_callB call_len (by rfl) T.b_len (by decide +kernel) (pa_cons (pv 2) pa_nil)) pa_nil))) (pa_cons (pe_callC c__law_roll (hr.mono (by first | decide | omega)) hG rfl (pa_cons (pv 0) (pa_cons pe_int pa_nil))) pa_nil)) (by rfl))
      (pss_cons (ps_if (pt_cmpR op_eq (pv 5) pe_int (nomark _)) (pss_one (ps_asg (pe_callB cr_sorted (by rfl) T.b_sorted (by decide +kernel) (pa_cons (pe_op op_cat (pe_ix ix_list (pv 2) (pv 4) (fun _ _ => rfl)) (pe_lst (pa_cons (pe_callC c__law_roll (hr.mono (by first | decide | omega)) hG rfl (pa_cons (pv 0) (pa_cons (pe_op op_add (pe_callB call_len (by rfl) T.b_len (by decide +kernel) (pa_cons (pv 2) pa_nil)) pe_int) pa_nil))) pa_nil))) pa_nil)) (pg_sub (pv 2) (pv 4) set_list))) (pss_one (ps_if (pt_cmpR op_eq (pv 5) pe_int (nomark _)) (pss_one (ps_expr (pe_bm PySem.F.plainAttrs_list PySem.F.slot_list_pop PySem.F.type_list_pop mt_popAt (pe_ix ix_list (pv 2) (pv 4) (fun _ _ => rfl)) (pa_cons (pe_callC c__law_roll (hr.mono (by first | decide | omega)) hG rfl (pa_cons (pv 0) (pa_cons (pe_callB call_len (by rfl) T.b_len (by decide +kernel) (pa_cons (pe_ix ix_list (pv 2) (pv 4) (fun _ _ => rfl)) pa_nil)) pa_nil))) pa_nil)))) (pss_one (ps_if (pt_cmpR op_eq (pv 5) pe_int (nomark _)) (pss_one (ps_asg (pe_callB cr_sortedS (by rfl) T.b_sorted (by decide +kernel) (pa_cons (pe_op op_cat (pe_ix ix_list (pv 3) (pv 4) (fun _ _ => rfl)) (pe_lst (pa_cons (pe_callC c__law_pick (hr.mono (by first | decide | omega)) hG rfl (pa_cons (pv 0) (pa_cons (pe_lst (pa_cons pe_str (pa_cons pe_str (pa_cons pe_str pa_nil)))) pa_nil))) pa_nil))) pa_nil)) (pg_sub (pv 3) (pv 4) set_list))) (pss_one (ps_if (PW.pt (pw_and (pt_cmpR op_eq (pv 5) pe_int (nomark _)) (pw_and1 (pt_cmpR (op_neD hr.units) (pe_ix ix_list (pv 3) (pv 4) (fun _ _ => rfl)) (pe_lst pa_nil) (nomark _))))) (pss_one (ps_expr (pe_bm PySem.F.plainAttrs_list PySem.F.slot_list_pop PySem.F.type_list_pop mt_popAt (pe_ix ix_list (pv 3) (pv 4) (fun _ _ => rfl)) (pa_cons (pe_callC c__law_roll (hr.mono (by first | decide | omega)) hG rfl (pa_cons (pv 0) (pa_cons (pe_callB call_len (by rfl) T.b_len (by decide +kernel) (pa_cons (pe_ix ix_list (pv 3) (pv 4) (fun _ _ => rfl)) pa_nil)) pa_nil))) pa_nil)))) (pss_one (ps_if (pt_cmpR op_eq (pv 5) pe_int (nomark _)) (pss_one (ps_asg (pe_revL (pe_ix ix_list (pv 3) (pv 4) (fun _ _ => rfl))) (pg_sub (pv 3) (pv 4) set_list))) (pss_one (ps_if (pt_cmpR op_eq (pv 5) pe_int (nomark _)) (pss_one (ps_expr (pe_bm PySem.F.plainAttrs_list PySem.F.slot_list_pop PySem.F.type_list_pop mt_popAt (pv 2) (pa_cons (pv 4) pa_nil)))) (pss_cons (ps_set (i := 6) nd rfl (.inl rfl) (pe_callC c__law_roll (hr.mono (by first | decide | omega)) hG rfl (pa_cons (pv 0) (pa_cons (pe_callB call_len (by rfl) T.b_len (by decide +kernel) (pa_cons (pv 2) pa_nil)) pa_nil))))
      (pss_one (ps_asg (pe_tup (pa_cons (pe_ix ix_list (pv 2) (pv 6) (fun _ _ => rfl)) (pa_cons (pe_ix ix_list (pv 2) (pv 4) (fun _ _ => rfl)) pa_nil))) (pg_tup (by rfl) (pgs_cons (pg_sub (pv 2) (pv 4) set_list) (pgs_cons (pg_sub (pv 2) (pv 6) set_list) pgs_nil)))))))))))))))))
      (pss_one (ps_ret (pe_lst (pa_cons (pv 2) (pa_cons (pv 3) pa_nil)))))))), ?_⟩
    obtain ⟨p0, q0, ha, g1, g2, np0, nq0, na⟩ := rd.ex
    obtain ⟨xs, hxs, lxs, atx⟩ := g1.at'
    obtain ⟨zs, hzs, lzs, atz⟩ := g2.at'
    have lx : xs.length = rs.length := by rw [lxs]; unfold WI; rw [List.length_map]
    have lz : zs.length = ts.length := by rw [lzs]; unfold WS; rw [List.length_map]
    refine ⟨.ref a, rfl, a, .ref p0, rfl, get_reach ha, p0, rfl, ⟨_, SqL.of hxs⟩, fun R hR => lc_list (xs := xs) (fun i H' => (∃ qs : List Addr, H' R = some (.lst (qs.map V.ref)) ∧ qs.length = i ∧ qs.Nodup ∧ (∀ u ∈ qs, H u = none ∧ u ≠ R) ∧ ∀ (j : Nat) (u : Addr) (r : List Nat), qs[j]? = some u → rs[j]? = some r → H' u = some (.lst (VI r))) ∧ Same H H') ⟨⟨[], upd_same, rfl, List.nodup_nil, (fun u m => by cases m), fun j u r e => nomatch e⟩, (Same.refl H).mut hR⟩ (fun i H' _ hP => SqL.of (hP.2 _ _ hxs)) (fun i y H' hy hP => ?_) (fun H1 hP => ?_)⟩
    · obtain ⟨⟨qs, hR1, lq, nq, aq, atq⟩, s1⟩ := hP
      have li := lt_of_get hy
      have er := List.getElem?_eq_getElem (show i < rs.length by omega)
      generalize rs[i]'(show i < rs.length by omega) = r at er
      obtain ⟨u0, e0, h0, _⟩ := atx i (VI r) (by unfold WI; rw [List.getElem?_map, er]; rfl)
      rw [hy] at e0
      obtain rfl := Option.some.inj e0
      refine ⟨rfl, tyes ?_⟩
      refine ⟨.ref u0, rfl, u0, _, rfl, .inl (SqL.of (s1 _ _ h0)), fun t ht => ?_⟩
      have nD : R ≠ t := ne_of_none hR1 ht
      have tq : t ∉ qs := fun m => by
        obtain ⟨j, ej⟩ := List.mem_iff_getElem?.mp m
        have ej2 := List.getElem?_eq_getElem (show j < rs.length by have := lt_of_get ej; omega)
        rw [atq j t _ ej ej2] at ht
        cases ht
      refine ⟨_, (upd_ne nD).trans hR1, lt_line' (by rw [List.length_map]; omega), ⟨qs ++ [t], by rw [upd_same, List.map_append]; rfl, by rw [List.length_append, lq]; rfl, List.nodup_append.mpr ⟨nq, List.nodup_cons.mpr ⟨(fun z => by cases z), List.nodup_nil⟩, fun u m v mv e => tq (by rw [List.mem_singleton.mp mv] at e; rw [← e]; exact m)⟩, fun u m => ?_, fun j qd r2 e1 e2 => ?_⟩, (s1.new ht).mut hR⟩
      · rcases List.mem_append.mp m with m | m
        · exact aq u m
        · rw [List.mem_singleton.mp m]
          exact ⟨s1.free ht, nD.symm⟩
      · rcases Nat.lt_or_ge j qs.length with lt | ge
        · rw [List.getElem?_append_left lt] at e1
          have z := atq j qd r2 e1 e2
          rw [upd_ne (aq qd (List.mem_of_getElem? e1)).2, upd_ne (ne_of_none z ht)]
          exact z
        · have lj := lt_of_get e1
          rw [List.length_append, List.length_singleton] at lj
          have ej : j = qs.length := by omega
          subst ej
          rw [List.getElem?_concat_length] at e1
          cases e1
          rw [lq, er] at e2
          cases e2
          exact (upd_ne nD.symm).trans upd_same
    obtain ⟨⟨qs1, hR1, lq1, nq1, aq1, atq1⟩, s1⟩ := hP
    have hzs1 := s1 _ _ hzs
    refine ⟨.ref a, rfl, a, .ref q0, rfl, get_truths (s1 _ _ ha), q0, rfl, ⟨_, SqL.of hzs1⟩, fun T2 hT => lc_list (xs := zs) (fun i H' => (∃ qs : List Addr, H' T2 = some (.lst (qs.map V.ref)) ∧ qs.length = i ∧ qs.Nodup ∧ (∀ u ∈ qs, H1 u = none ∧ u ≠ T2) ∧ ∀ (j : Nat) (u : Addr) (r : List Str), qs[j]? = some u → ts[j]? = some r → H' u = some (.lst (r.map V.str))) ∧ Same H1 H') ⟨⟨[], upd_same, rfl, List.nodup_nil, (fun u m => by cases m), fun j u r e => nomatch e⟩, (Same.refl H1).mut hT⟩ (fun i H' _ hP => SqL.of (hP.2 _ _ hzs1)) (fun i y H' hy hP => ?_) (fun H2 hP => ?_)⟩
    · obtain ⟨⟨qs, hR1, lq, nq, aq, atq⟩, s1'⟩ := hP
      have li := lt_of_get hy
      have er := List.getElem?_eq_getElem (show i < ts.length by omega)
      generalize ts[i]'(show i < ts.length by omega) = r at er
      obtain ⟨u0, e0, h0, _⟩ := atz i (r.map V.str) (by unfold WS; rw [List.getElem?_map, er]; rfl)
      rw [hy] at e0
      obtain rfl := Option.some.inj e0
      refine ⟨rfl, tyes ?_⟩
      refine ⟨.ref u0, rfl, u0, _, rfl, .inl (SqL.of (s1' _ _ (s1 _ _ h0))), fun t ht => ?_⟩
      have nD : T2 ≠ t := ne_of_none hR1 ht
      have tq : t ∉ qs := fun m => by
        obtain ⟨j, ej⟩ := List.mem_iff_getElem?.mp m
        have ej2 := List.getElem?_eq_getElem (show j < ts.length by have := lt_of_get ej; omega)
        rw [atq j t _ ej ej2] at ht
        cases ht
      refine ⟨_, (upd_ne nD).trans hR1, lt_line' (by rw [List.length_map]; omega), ⟨qs ++ [t], by rw [upd_same, List.map_append]; rfl, by rw [List.length_append, lq]; rfl, List.nodup_append.mpr ⟨nq, List.nodup_cons.mpr ⟨(fun z => by cases z), List.nodup_nil⟩, fun u m v mv e => tq (by rw [List.mem_singleton.mp mv] at e; rw [← e]; exact m)⟩, fun u m => ?_, fun j qd r2 e1 e2 => ?_⟩, (s1'.new ht).mut hT⟩
      · rcases List.mem_append.mp m with m | m
        · exact aq u m
        · rw [List.mem_singleton.mp m]
          exact ⟨s1'.free ht, nD.symm⟩
      · rcases Nat.lt_or_ge j qs.length with lt | ge
        · rw [List.getElem?_append_left lt] at e1
          have z := atq j qd r2 e1 e2
          rw [upd_ne (aq qd (List.mem_of_getElem? e1)).2, upd_ne (ne_of_none z ht)]
          exact z
        · have lj := lt_of_get e1
          rw [List.length_append, List.length_singleton] at lj
          have ej : j = qs.length := by omega
          subst ej
          rw [List.getElem?_concat_length] at e1
          cases e1
          rw [lq, er] at e2
          cases e2
          exact (upd_ne nD.symm).trans upd_same
    obtain ⟨⟨qs2, hT1, lq2, nq2, aq2, atq2⟩, s2⟩ := hP
    refine ⟨_, _, rfl, ?_⟩
    dsimp only [List.set]
    obtain ⟨od, hod⟩ := hd.some
    have dR : d ≠ R := ne_of_none hod hR
    have nRT : R ≠ T2 := ne_of_none hR1 hT
    have dT : d ≠ T2 := fun e => by rw [← e] at hT; rw [s1 _ _ hod] at hT; cases hT
    have hRH : H R = none := hR
    have hTH : H T2 = none := s1.free hT
    have own1 : ∀ u ∈ qs1, u ∉ [d, R, T2] ∧ H u = none := fun u m => by
      obtain ⟨z1, z2⟩ := aq1 u m
      obtain ⟨j, ej⟩ := List.mem_iff_getElem?.mp m
      have ej2 := List.getElem?_eq_getElem (show j < rs.length by have := lt_of_get ej; omega)
      have z3 := atq1 j u _ ej ej2
      refine ⟨fun k => ?_, z1⟩
      rcases List.mem_cons.mp k with e | k
      · rw [e, hod] at z1; cases z1
      · rcases List.mem_cons.mp k with e | k
        · exact z2 e
        · cases hT.symm.trans ((congrArg H1 (List.mem_singleton.mp k)).symm.trans z3)
    have own2 : ∀ u ∈ qs2, u ∉ [d, R, T2] ∧ H u = none ∧ H1 u = none := fun u m => by
      obtain ⟨z1, z2⟩ := aq2 u m
      refine ⟨fun k => ?_, s1.free z1, z1⟩
      rcases List.mem_cons.mp k with e | k
      · rw [e, s1 _ _ hod] at z1; cases z1
      · rcases List.mem_cons.mp k with e | k
        · rw [e, hR1] at z1; cases z1
        · exact z2 (List.mem_singleton.mp k)
    have far : ∀ u ∈ qs1, u ∉ qs2 := fun u m m2 => by
      obtain ⟨j, ej⟩ := List.mem_iff_getElem?.mp m
      have ej2 := List.getElem?_eq_getElem (show j < rs.length by have := lt_of_get ej; omega)
      have z3 := atq1 j u _ ej ej2
      rw [(own2 u m2).2.2] at z3
      cases z3
    have N1 : RowsN H2 R [d, R, T2] (WI rs) := ⟨qs1, s2 _ _ hR1, by unfold WI; rw [List.length_map]; omega, nq1, fun u m => (own1 u m).1, fun i u row e1 e2 => by
      unfold WI at e2
      rw [List.getElem?_map] at e2
      obtain ⟨r, er, rfl⟩ := Option.map_eq_some_iff.mp e2
      exact s2 _ _ (atq1 i u r e1 er)⟩
    have N2 : RowsN H2 T2 [d, R, T2] (WS ts) := ⟨qs2, hT1, by unfold WS; rw [List.length_map]; omega, nq2, fun u m => (own2 u m).1, fun i u row e1 e2 => by
      unfold WS at e2
      rw [List.getElem?_map] at e2
      obtain ⟨r, er, rfl⟩ := Option.map_eq_some_iff.mp e2
      exact atq2 i u r e1 er⟩
    have hR2 := s2 _ _ hR1
    have d2 := hd.same (s1.trans s2)
    refine ⟨.ref d, rfl, .ref R, rfl, .ref R, _, rfl, .inl ⟨_, SqL.of hR2, rfl⟩, d, _, rfl, d2, by rw [List.length_map]; omega, by rw [List.length_map]; omega, fun w H3 w0 w1 x3 d3 => ?_⟩
    refine ⟨.ref d, rfl, d, 7, rfl, d3, by decide, by decide, fun way H4 y0 y1 x4 d4 => ⟨_, _, rfl, ?_⟩⟩
    dsimp only [List.set]
    obtain ⟨w, rfl⟩ := Int.eq_ofNat_of_zero_le w0
    rw [List.length_map] at w1
    have lw : w < rs.length := by omega
    have x5 := x3.trans x4
    have kx : ∀ {G : Hp}, Ext d H2 G → RowsN G R [d, R, T2] (WI rs) ∧ RowsN G T2 [d, R, T2] (WS ts) := fun {G} x => ⟨N1.keep (x R · dR.symm) fun q m o e => x q o (fun z => m (by rw [z]; simp)) e, N2.keep (x T2 · dT.symm) fun q m o e => x q o (fun z => m (by rw [z]; simp)) e⟩
    have xH : ∀ {G : Hp}, Ext d H2 G → Ext d H G := fun {G} x a o n h => x a o n ((s1.trans s2) a o h)
    refine cut_any (fun σ' G => (∃ s6 s7, σ' = [some (.ref d), some (.ref a), some (.ref R), some (.ref T2), some (.int (w : Nat)), some (.int way), s6, s7]) ∧ ∃ rs2 ts2, Ext d H G ∧ IsDice G d ∧ RowsX G R [d, R, T2] (WI rs2) ∧ RowsX G T2 [d, R, T2] (WS ts2) ∧ Bnt rs2 ts2) (fun N hN => ?_) (fun σ' G hP => ?_)
    case refine_2 =>
      obtain ⟨⟨s6, s7, rfl⟩, rs2, ts2, x6, d6, g1, g2, bn⟩ := hP
      refine ⟨.ref R, rfl, .ref T2, rfl, lt_line (by show 2 ≤ 1000000; decide), fun l hl => ?_⟩
      obtain ⟨o6, ho6⟩ := d6.some
      exact q l R T2 rs2 ts2 _ (x6.new hl) (d6.new hl) upd_same ((g1.new hl).weak (fun u m => by rw [List.mem_singleton.mp m]; simp)) ((g2.new hl).weak (fun u m => by rw [List.mem_singleton.mp m]; simp)) bn (fun e => by rw [e, ho6] at hl; cases hl) dR.symm dT.symm
    obtain ⟨N1, N2⟩ := kx x5
    obtain ⟨ys, hys, lys, aty⟩ := N1.x.at'
    obtain ⟨us, hus, lus, atu⟩ := N2.x.at'
    have ly : ys.length = rs.length := by rw [lys]; unfold WI; rw [List.length_map]
    have lu : us.length = ts.length := by rw [lus]; unfold WS; rw [List.length_map]
    have er := List.getElem?_eq_getElem lw
    generalize erw : rs[w] = r at er
    have et := List.getElem?_eq_getElem (show w < ts.length by omega)
    generalize etw : ts[w]'(show w < ts.length by omega) = tw at et
    obtain ⟨qw, yw, zw, nqw⟩ := aty w (VI r) (by unfold WI; rw [List.getElem?_map, er]; rfl)
    obtain ⟨qt, yt, zt, nqt⟩ := atu w (tw.map V.str) (by unfold WS; rw [List.getElem?_map, et]; rfl)
    obtain ⟨r1, r2, r3⟩ := rb r (List.mem_of_getElem? er)
    obtain ⟨t1, t2⟩ := tb tw (List.mem_of_getElem? et)
    have B0 : Bnt rs ts := ⟨l5, by omega, fun r m => ⟨by have := (rb r m).2.1; omega, fun n hn => by have := (rb r m).2.2 n hn; omega⟩, fun t m => ⟨by have := (tb t m).1; omega, (tb t m).2⟩⟩
    have BR : ∀ r', r'.length ≤ 10 → (∀ n ∈ r', n ≤ 10) → Bnt (rs.set w r') ts := fun r' z1 z2 => ⟨by rw [List.length_set]; exact l5, by omega, fun r m => by
      rcases List.mem_or_eq_of_mem_set m with m | e
      · exact B0.r r m
      · rw [e]; exact ⟨z1, z2⟩, B0.t⟩
    have BT : ∀ t', t'.length ≤ 10 → (∀ x ∈ t', x ∈ abc) → Bnt rs (ts.set w t') := fun t' z1 z2 => ⟨l5, by rw [List.length_set]; omega, B0.r, fun r m => by
      rcases List.mem_or_eq_of_mem_set m with m | e
      · exact B0.t r m
      · rw [e]; exact ⟨z1, z2⟩⟩
    have new3 : ∀ {G : Hp} {p : Addr}, G p = none → Ext d H4 G → IsDice G d → p ∉ [d, R, T2] := fun {G p} hp x dg m => by
      obtain ⟨u, hu⟩ := dg.some
      rcases List.mem_cons.mp m with e | m
      · rw [e, hu] at hp; cases hp
      · rcases List.mem_cons.mp m with e | m
        · rw [e, x R _ dR.symm hys] at hp; cases hp
        · rw [List.mem_singleton.mp m, x T2 _ dT.symm hus] at hp; cases hp
    have nqwd : qw ≠ d := fun e => nqw (by rw [e]; simp)
    have nqtd : qt ≠ d := fun e => nqt (by rw [e]; simp)
    have wiS : ∀ r', (WI rs).set w (VI r') = WI (rs.set w r') := fun r' => by unfold WI; rw [List.map_set]
    have wsS : ∀ t', (WS ts).set w (t'.map V.str) = WS (ts.set w t') := fun t' => by unfold WS; rw [List.map_set]
    have lWI : w < (WI rs).length := by unfold WI; rw [List.length_map]; exact lw
    have lWS : w < (WS ts).length := by unfold WS; rw [List.length_map]; omega
    refine ⟨.int way, rfl, rfl, _, rfl, ?_⟩
    refine ite2 (fun _ => ?_) (fun _ => ?_)
    · -- a world more in the row
      refine ⟨.ref R, rfl, .int (w : Nat), rfl, R, ys, (w : Nat), .ref qw, rfl, rfl, SqL.of hys, atI_nat yw, .ref d, rfl, .ref R, rfl, .ref R, _, rfl, .inl ⟨_, SqL.of hys, rfl⟩, _, 1, rfl, rfl, d, _, rfl, d4, by omega, by rw [ly]; omega, fun c H5 c0 c1 x6 d6 => ⟨lt_line (by show 1 ≤ 1000000; decide), fun p1 hp1 => ?_⟩⟩
      obtain ⟨c, rfl⟩ := Int.eq_ofNat_of_zero_le c0
      rw [ly] at c1
      have hq6 := x6 qw _ nqwd zw
      have hq7 := (upd_ne (o := .lst [V.int (c : Nat)]) (ne_of_none hq6 hp1)).trans hq6
      have hp7 : upd H5 p1 (.lst [V.int (c : Nat)]) p1 = some (.lst [V.int (c : Nat)]) := upd_same
      have x7 := x6.new (o := .lst [V.int (c : Nat)]) hp1
      have d7 := d6.new (o := .lst [V.int (c : Nat)]) hp1
      generalize upd H5 p1 (.lst [V.int (c : Nat)]) = G7 at hq7 hp7 x7 d7 ⊢
      refine ⟨qw, p1, _, _, rfl, rfl, hq7, hp7, lt_line (by rw [vi_len]; show r.length + 1 ≤ 1000000; omega), fun p2 hp2 => ?_⟩
      have eV : VI r ++ [V.int ((c : Nat) : Int)] = VI (r ++ [c]) := by unfold VI; rw [List.map_append]; rfl
      rw [eV]
      have x8 := x7.new (o := .lst (VI (r ++ [c]))) hp2
      have d8 := d7.new (o := .lst (VI (r ++ [c]))) hp2
      have hp8 : upd G7 p2 (.lst (VI (r ++ [c]))) p2 = some (.lst (VI (r ++ [c]))) := upd_same
      generalize upd G7 p2 (.lst (VI (r ++ [c]))) = G8 at x8 d8 hp8 ⊢
      rw [vi_map] at hp8
      refine ⟨p2, _, rfl, SqL.of hp8, by rw [List.length_map, List.length_append]; show r.length + 1 < 64; omega, fun ns' pn pmn pwn hpn => ?_⟩
      obtain ⟨r', rfl, pm2⟩ := int_row pmn
      rw [← vi_map]
      have x9 := x8.new (o := .lst (VI r')) hpn
      have d9 := d8.new (o := .lst (VI r')) hpn
      have np := new3 hpn x8 d8
      have hp9 : upd G8 pn (.lst (VI r')) pn = some (.lst (VI r')) := upd_same
      generalize upd G8 pn (.lst (VI r')) = G9 at x9 d9 hp9 ⊢
      refine ⟨.ref R, rfl, .int (w : Nat), rfl, R, ys, (w : Nat), w, rfl, rfl, x9 R _ dR.symm hys, ix_nat (by omega), hN _ _ ⟨⟨_, _, rfl⟩, rs.set w r', ts, ?_⟩⟩
      have k9 := x5.trans x9
      have b1 := (kx k9).1.x.put (x9 R _ dR.symm hys) hp9 np (show R ∈ [d, R, T2] by simp) lWI
      rw [wiS] at b1
      refine ⟨(xH k9).mut hRH, d9.mut dR.symm, b1, (kx k9).2.x.off nRT.symm (show R ∈ [d, R, T2] by simp), BR r' (by rw [pm2.length_eq, List.length_append]; show r.length + 1 ≤ 10; omega) fun n hn => ?_⟩
      rcases List.mem_append.mp (pm2.mem_iff.mp hn) with m | m
      · have := r3 n m; omega
      · rw [List.mem_singleton.mp m]; omega
    refine ⟨.int way, rfl, rfl, _, rfl, ?_⟩
    refine ite2 (fun _ => ?_) (fun _ => ?_)
    · -- a world less in the row
      refine ⟨.ref R, rfl, .int (w : Nat), rfl, R, ys, (w : Nat), .ref qw, rfl, rfl, SqL.of hys, atI_nat yw, .inl ⟨rfl, _, SqL.of zw⟩, .ref d, rfl, .ref R, rfl, .int (w : Nat), rfl, R, ys, (w : Nat), .ref qw, rfl, rfl, SqL.of hys, atI_nat yw, .ref qw, _, rfl, .inl ⟨_, SqL.of zw, rfl⟩, d, _, rfl, d4, ?_, by rw [vi_len]; omega, fun c H5 c0 c1 x6 d6 => ?_⟩
      · rw [vi_len]
        have : 0 < r.length := List.length_pos_iff.mpr r1
        omega
      obtain ⟨c, rfl⟩ := Int.eq_ofNat_of_zero_le c0
      rw [vi_len] at c1
      have lc : c < (VI r).length := by rw [vi_len]; omega
      refine ⟨qw, VI r, (c : Nat), c, _, rfl, rfl, x6 qw _ nqwd zw, by omega, by omega, (ixN_seq (ix_nat lc)).1, List.getElem?_eq_getElem lc, hN _ _ ⟨⟨_, _, rfl⟩, rs.set w (r.eraseIdx c), ts, ?_⟩⟩
      have k9 := x5.trans x6
      rw [show (VI r).eraseIdx c = VI (r.eraseIdx c) from erase_map _ r c]
      have b1 := (kx k9).1.inner (row := VI (r.eraseIdx c)) (x6 R _ dR.symm hys) yw (show R ∈ [d, R, T2] by simp)
      rw [wiS] at b1
      have inq : qw ∈ qs1 := by
        have e := x5 R _ dR.symm hR2
        rw [hys] at e
        have e2 : ys = qs1.map V.ref := HO.lst.inj (Option.some.inj e)
        have m := List.mem_of_getElem? yw
        rw [e2] at m
        obtain ⟨u, mu, eu⟩ := List.mem_map.mp m
        exact V.ref.inj eu ▸ mu
      refine ⟨(xH k9).mut (own1 qw inq).2, d6.mut nqwd, b1, (kx k9).2.x.apart (fun e => nqw (by rw [← e]; simp)) (fun zs2 hz m => ?_), BR _ (by have := List.length_eraseIdx_le r c; omega) fun n hn => by have := r3 n (List.mem_of_mem_eraseIdx hn); omega⟩
      have e := k9 T2 _ dT.symm hT1
      rw [hz] at e
      rw [HO.lst.inj (Option.some.inj e)] at m
      obtain ⟨u, mu, eu⟩ := List.mem_map.mp m
      exact far qw inq (V.ref.inj eu ▸ mu)
    refine ⟨.int way, rfl, rfl, _, rfl, ?_⟩
    refine ite2 (fun _ => ?_) (fun _ => ?_)
    · -- an atom more
      refine ⟨.ref T2, rfl, .int (w : Nat), rfl, T2, us, (w : Nat), .ref qt, rfl, rfl, SqL.of hus, atI_nat yt, .ref d, rfl, lt_line (by show 3 ≤ 1000000; decide), fun l1 hl1 => ?_⟩
      obtain ⟨o4, ho4⟩ := d4.some
      have nl1 : l1 ≠ d := fun e => by rw [e, ho4] at hl1; cases hl1
      refine ⟨d, l1, abc.map V.str, rfl, d4.new hl1, SqL.of upd_same, nl1, by decide, by decide, fun x H5 mx x6 d6 => ⟨lt_line (by show 1 ≤ 1000000; decide), fun p1 hp1 => ?_⟩⟩
      obtain ⟨c, mc, rfl⟩ := mem_strs mx
      have x6 : Ext d H4 H5 := ((Ext.refl H4).new hl1).trans x6
      have hq6 := x6 qt _ nqtd zt
      have hq7 := (upd_ne (o := .lst [V.str c]) (ne_of_none hq6 hp1)).trans hq6
      have hp7 : upd H5 p1 (.lst [V.str c]) p1 = some (.lst [V.str c]) := upd_same
      have x7 := x6.new (o := .lst [V.str c]) hp1
      have d7 := d6.new (o := .lst [V.str c]) hp1
      generalize upd H5 p1 (.lst [V.str c]) = G7 at hq7 hp7 x7 d7 ⊢
      refine ⟨qt, p1, _, _, rfl, rfl, hq7, hp7, lt_line (by rw [List.length_map]; show tw.length + 1 ≤ 1000000; omega), fun p2 hp2 => ?_⟩
      rw [show tw.map V.str ++ [V.str c] = (tw ++ [c]).map V.str by rw [List.map_append]; rfl]
      have x8 := x7.new (o := .lst ((tw ++ [c]).map V.str)) hp2
      have d8 := d7.new (o := .lst ((tw ++ [c]).map V.str)) hp2
      have hp8 : upd G7 p2 (.lst ((tw ++ [c]).map V.str)) p2 = some (.lst ((tw ++ [c]).map V.str)) := upd_same
      generalize upd G7 p2 (.lst ((tw ++ [c]).map V.str)) = G8 at x8 d8 hp8 ⊢
      refine ⟨p2, tw ++ [c], rfl, SqL.of hp8, by rw [List.length_append]; show tw.length + 1 < 64; omega, fun t' pn pmn son hpn => ?_⟩
      have x9 := x8.new (o := .lst (t'.map V.str)) hpn
      have d9 := d8.new (o := .lst (t'.map V.str)) hpn
      have np := new3 hpn x8 d8
      have hp9 : upd G8 pn (.lst (t'.map V.str)) pn = some (.lst (t'.map V.str)) := upd_same
      generalize upd G8 pn (.lst (t'.map V.str)) = G9 at x9 d9 hp9 ⊢
      refine ⟨.ref T2, rfl, .int (w : Nat), rfl, T2, us, (w : Nat), w, rfl, rfl, x9 T2 _ dT.symm hus, ix_nat (by omega), hN _ _ ⟨⟨_, _, rfl⟩, rs, ts.set w t', ?_⟩⟩
      have k9 := x5.trans x9
      have b2 := (kx k9).2.x.put (x9 T2 _ dT.symm hus) hp9 np (show T2 ∈ [d, R, T2] by simp) lWS
      rw [wsS] at b2
      refine ⟨(xH k9).mut hTH, d9.mut dT.symm, (kx k9).1.x.off nRT (show T2 ∈ [d, R, T2] by simp), b2, BT t' (by rw [pmn.length_eq, List.length_append]; show tw.length + 1 ≤ 10; omega) fun n hn => ?_⟩
      rcases List.mem_append.mp (pmn.mem_iff.mp hn) with m | m
      · exact t2 n m
      · rw [List.mem_singleton.mp m]; exact mc
    apply share (A := fun G => Ext d H4 G ∧ IsDice G d)
    case h2 =>
      intro rest
      refine ⟨.int way, rfl, rfl, _, rfl, ?_⟩
      refine ite2 (fun _ => ?_) (fun _ => ?_)
      · refine ⟨.ref T2, rfl, .int (w : Nat), rfl, T2, us, (w : Nat), .ref qt, rfl, rfl, SqL.of hus, atI_nat yt, Nat.zero_le _, fun p1 hp1 => ?_⟩
        have zt1 := (upd_ne (o := .lst []) (ne_of_none zt hp1)).trans zt
        refine ⟨_, _, .lst (SqL.of zt1) (dp_strs tw), .lst (SqL.of upd_same) .nil, shaped_S (fun x m c hc => ?_), by decide, _, rfl, ?_⟩
        · have z := t2 x m
          have all : ∀ y ∈ abc, ∀ c ∈ y.cps.toList, c < 128 := by decide
          exact all x z c hc
        rw [eqv_nilS]
        have x6 := (Ext.refl (d := d) H4).new (o := .lst []) hp1
        have d6 := d4.new (o := .lst []) hp1
        by_cases ht : tw = []
        · rw [decide_eq_true ht]
          exact iteF (rest _ ⟨x6, d6⟩)
        · rw [decide_eq_false ht]
          refine iteT ?_
          generalize upd H4 p1 (.lst []) = G6 at zt1 x6 d6 ⊢
          have hus6 := x6 T2 _ dT.symm hus
          refine ⟨.ref T2, rfl, .int (w : Nat), rfl, T2, us, (w : Nat), .ref qt, rfl, rfl, SqL.of hus6, atI_nat yt, .inl ⟨rfl, _, SqL.of zt1⟩, .ref d, rfl, .ref T2, rfl, .int (w : Nat), rfl, T2, us, (w : Nat), .ref qt, rfl, rfl, SqL.of hus6, atI_nat yt, .ref qt, _, rfl, .inl ⟨_, SqL.of zt1, rfl⟩, d, _, rfl, d6, ?_, by rw [List.length_map]; omega, fun c H7 c0 c1 x7 d7 => ?_⟩
          · rw [List.length_map]
            have : 0 < tw.length := List.length_pos_iff.mpr ht
            omega
          obtain ⟨c, rfl⟩ := Int.eq_ofNat_of_zero_le c0
          rw [List.length_map] at c1
          have lc : c < (tw.map V.str).length := by rw [List.length_map]; omega
          have k9 := x5.trans (x6.trans x7)
          refine ⟨qt, tw.map V.str, (c : Nat), c, _, rfl, rfl, x7 qt _ nqtd zt1, by omega, by omega, (ixN_seq (ix_nat lc)).1, List.getElem?_eq_getElem lc, hN _ _ ⟨⟨_, _, rfl⟩, rs, ts.set w (tw.eraseIdx c), ?_⟩⟩
          rw [erase_map]
          have b2 := (kx k9).2.inner (row := (tw.eraseIdx c).map V.str) (x7 T2 _ dT.symm hus6) yt (show T2 ∈ [d, R, T2] by simp)
          rw [wsS] at b2
          have inq : qt ∈ qs2 := by
            have e := x5 T2 _ dT.symm hT1
            rw [hus] at e
            have e2 : us = qs2.map V.ref := HO.lst.inj (Option.some.inj e)
            have m := List.mem_of_getElem? yt
            rw [e2] at m
            obtain ⟨u, mu, eu⟩ := List.mem_map.mp m
            exact V.ref.inj eu ▸ mu
          refine ⟨(xH k9).mut (own2 qt inq).2.1, d7.mut nqtd, (kx k9).1.x.apart (fun e => nqt (by rw [← e]; simp)) (fun zs2 hz m => ?_), b2, BT _ (by have := List.length_eraseIdx_le tw c; omega) fun n hn => t2 n (List.mem_of_mem_eraseIdx hn)⟩
          have e := k9 R _ dR.symm hR2
          rw [hz] at e
          rw [HO.lst.inj (Option.some.inj e)] at m
          obtain ⟨u, mu, eu⟩ := List.mem_map.mp m
          exact far qt (V.ref.inj eu ▸ mu) inq
      · exact iteF (rest H4 ⟨Ext.refl H4, d4⟩)
    case h1 =>
      rintro G ⟨x6, d6⟩
      have hys := x6 R _ dR.symm hys
      have hus := x6 T2 _ dT.symm hus
      have zt := x6 qt _ nqtd zt
      have k6 := x5.trans x6
      refine ⟨.int way, rfl, rfl, _, rfl, ?_⟩
      refine ite2 (fun _ => ?_) (fun _ => ?_)
      · -- a row of atoms turned round
        refine ⟨.ref T2, rfl, .int (w : Nat), rfl, T2, us, (w : Nat), .ref qt, rfl, rfl, SqL.of hus, atI_nat yt, qt, _, rfl, SqL.of zt, fun pn hpn => ?_⟩
        rw [← List.map_reverse]
        have x9 := x6.new (o := .lst (tw.reverse.map V.str)) hpn
        have d9 := d6.new (o := .lst (tw.reverse.map V.str)) hpn
        have np := new3 hpn x6 d6
        have hp9 : upd G pn (.lst (tw.reverse.map V.str)) pn = some (.lst (tw.reverse.map V.str)) := upd_same
        have hus9 := (upd_ne (o := .lst (tw.reverse.map V.str)) (ne_of_none hus hpn)).trans hus
        generalize upd G pn (.lst (tw.reverse.map V.str)) = G9 at x9 d9 hp9 hus9 ⊢
        refine ⟨.ref T2, rfl, .int (w : Nat), rfl, T2, us, (w : Nat), w, rfl, rfl, hus9, ix_nat (by omega), hN _ _ ⟨⟨_, _, rfl⟩, rs, ts.set w tw.reverse, ?_⟩⟩
        have k9 := x5.trans x9
        have b2 := (kx k9).2.x.put hus9 hp9 np (show T2 ∈ [d, R, T2] by simp) lWS
        rw [wsS] at b2
        exact ⟨(xH k9).mut hTH, d9.mut dT.symm, (kx k9).1.x.off nRT (show T2 ∈ [d, R, T2] by simp), b2, BT _ (by rw [List.length_reverse]; omega) fun n hn => t2 n (List.mem_reverse.mp hn)⟩
      refine ⟨.int way, rfl, rfl, _, rfl, ?_⟩
      refine ite2 (fun _ => ?_) (fun _ => ?_)
      · -- a row of worlds left out
        have lwy : w < ys.length := by omega
        refine ⟨.ref R, rfl, .inl ⟨rfl, _, SqL.of hys⟩, .int (w : Nat), rfl, R, ys, (w : Nat), w, _, rfl, rfl, hys, by omega, by omega, (ixN_seq (ix_nat lwy)).1, yw, hN _ _ ⟨⟨_, _, rfl⟩, rs.eraseIdx w, ts, ?_⟩⟩
        have b1 := (kx k6).1.x.erase hys (show R ∈ [d, R, T2] by simp) lWI
        rw [wi_erase] at b1
        exact ⟨(xH k6).mut hRH, d6.mut dR.symm, b1, (kx k6).2.x.off nRT.symm (show R ∈ [d, R, T2] by simp), ⟨by have := List.length_eraseIdx_le rs w; omega, B0.l2, fun r m => B0.r r (List.mem_of_mem_eraseIdx m), B0.t⟩⟩
      refine ⟨.ref d, rfl, .ref R, rfl, .ref R, _, rfl, .inl ⟨_, SqL.of hys, rfl⟩, d, _, rfl, d6, by omega, by omega, fun o H7 o0 o1 x7 d7 => asg_go2 ?_⟩
      obtain ⟨o, rfl⟩ := Int.eq_ofNat_of_zero_le o0
      dsimp only [List.set]
      rw [ly] at o1
      have lo : o < rs.length := by omega
      have ero := List.getElem?_eq_getElem lo
      generalize ero2 : rs[o] = ro at ero
      obtain ⟨qo, yo, zo, nqo⟩ := aty o (VI ro) (by unfold WI; rw [List.getElem?_map, ero]; rfl)
      have nqod : qo ≠ d := fun e => nqo (by rw [e]; simp)
      have hys7 := x7 R _ dR.symm hys
      have zo7 := x7 qo _ nqod (x6 qo _ nqod zo)
      have zw7 := x7 qw _ nqwd (x6 qw _ nqwd zw)
      have k7 := k6.trans x7
      refine ⟨.ref R, rfl, .int (o : Nat), rfl, R, ys, (o : Nat), .ref qo, rfl, rfl, SqL.of hys7, atI_nat yo, .ref R, rfl, .int (w : Nat), rfl, R, ys, (w : Nat), .ref qw, rfl, rfl, SqL.of hys7, atI_nat yw, lt_line (by show 2 ≤ 1000000; decide), fun t ht => ?_⟩
      have k8 := k7.new (o := .tup [.ref qo, .ref qw]) ht
      have d8 := d7.new (o := .tup [.ref qo, .ref qw]) ht
      have hys8 := (upd_ne (o := .tup [.ref qo, .ref qw]) (ne_of_none hys7 ht)).trans hys7
      have zo8 := (upd_ne (o := .tup [.ref qo, .ref qw]) (ne_of_none zo7 ht)).trans zo7
      have zw8 := (upd_ne (o := .tup [.ref qo, .ref qw]) (ne_of_none zw7 ht)).trans zw7
      have ht8 : upd H7 t (.tup [.ref qo, .ref qw]) t = some (.tup [.ref qo, .ref qw]) := upd_same
      generalize upd H7 t (.tup [.ref qo, .ref qw]) = G8 at k8 d8 hys8 zo8 zw8 ht8 ⊢
      have p1 := (kx k8).1.x.put hys8 zo8 nqo (show R ∈ [d, R, T2] by simp) lWI
      rw [wiS] at p1
      have zw9 := (upd_ne (o := .lst (ys.set w (.ref qo))) (show qw ≠ R from fun e => nqw (by rw [e]; simp))).trans zw8
      have p2 := p1.put upd_same zw9 nqw (show R ∈ [d, R, T2] by simp) (show o < (WI (rs.set w ro)).length by unfold WI; rw [List.length_map, List.length_set]; exact lo)
      rw [show (WI (rs.set w ro)).set o (VI r) = WI ((rs.set w ro).set o r) by unfold WI; rw [List.map_set, List.map_set, List.map_set]] at p2
      refine ⟨t, _, rfl, .of ht8, rfl, _, _, rfl, .ref R, rfl, .int (w : Nat), rfl, R, ys, (w : Nat), w, rfl, rfl, hys8, ix_nat (by omega), _, _, rfl, .ref R, rfl, .int (o : Nat), rfl, R, _, (o : Nat), o, rfl, rfl, upd_same, ix_nat (by rw [List.length_set]; omega), rfl, hN _ _ ⟨⟨_, _, rfl⟩, (rs.set w ro).set o r, ts, ?_⟩⟩
      refine ⟨((xH k8).mut hRH).mut hRH, (d8.mut dR.symm).mut dR.symm, p2, ((kx k8).2.x.off nRT.symm (show R ∈ [d, R, T2] by simp)).off nRT.symm (show R ∈ [d, R, T2] by simp), ⟨by rw [List.length_set, List.length_set]; exact l5, B0.l2, fun u m => ?_, B0.t⟩⟩
      rcases List.mem_or_eq_of_mem_set m with m | e
      · rcases List.mem_or_eq_of_mem_set m with m | e
        · exact B0.r u m
        · rw [e]; exact B0.r ro (List.mem_of_getElem? ero)
      · rw [e]; exact B0.r r (List.mem_of_getElem? er)
end


end My
namespace My
open PySem PySem.Spec PyProof.Rows L2 TL
set_option pp.maxSteps 3000
set_option pp.deepTerms false
/-! ### len(s) of a set of texts; list(d.values()) -/
section
variable {X : Cx} {e : Expr} {te : TE} {p apos cpos pos : PySem.Pos}
def rLenS (P : Program) (w : World) : List V → Hp → VK → Prop := fun xs H Q => ∃ (a : Addr) (L : List Str), xs = [V.ref a] ∧ H a = some (SetSO P w a L) ∧ L.length < 64 ∧ (L.Nodup → Q (.int ((L.length : Nat) : Int)) H)
theorem call_lenS : CallR X (.builtin "len") (rLenS X.prog X.w) := by
  intro pins s σ H xs us Q I r h
  obtain ⟨a, L, rfl, ha, h64, q⟩ := h
  rw [Vals.ref1 r]
  have R : SetS X.prog X.w s.heap a L := (I.hok a _ ha).1
  obtain ⟨⟨es, ep, t⟩, ho, F⟩ := R
  have sz : es.size = L.length := F.ok.sz
  have ft : t.fits es.size = true := F.ok.fit
  exact PySem.call_len_set ho ⟨rfl, rfl, rfl⟩ rfl ft (show ((es.size : Nat) : Int) < 2 ^ 63 by omega) ⟨.int ((L.length : Nat) : Int), H, I.tok _, ⟨_, by rw [sz]⟩, q F.nd⟩
def rValsL : V → Hp → VK → Prop := fun x H Q => ∃ (d : Addr) (kvs : List (Key × V)), x = .ref d ∧ H d = some (.dK kvs) ∧ ∀ p, H p = none → Q (.ref p) (upd H p (.lst (kvs.map (·.2))))
def tListVals (te : TE) : TE := fun σ H Q => te σ H fun x H1 => rValsL x H1 Q
theorem vals_snd : ∀ {kvs : List (Key × V)} {vs : List (Key × Value)}, KV kvs vs → Vals (kvs.map (·.2)) (vs.map (·.2))
  | _, _, .nil => .nil
  | _, _, .cons a r => .cons a.2 (vals_snd r)
theorem pe_listVals (hc : X.calm = true) (he : PE X e te) (hg : Gl X "list") (hm : X.mg "list" = none) (hv : bootBuiltins "list" = some (.type "list")) (hbase : attributeBase e "values" X.env (eval e X.env) = eval e X.env := by rfl) (hline : (apos.endLine == cpos.line) = true := by rfl)
    (hs : starEach [.Call (.Attribute e "values" apos) [] [] cpos] X.env = (false, eval (.Call (.Attribute e "values" apos) [] [] cpos) X.env) :: starEach [] X.env := by rfl) :
    PE X (.Call (.Name "list" p) [.Call (.Attribute e "values" apos) [] [] cpos] [] pos) (tListVals te) := by
  refine ⟨fun pins s σ H Q I hq => ?_⟩
  refine wpAny_Call_Name_kw (ld_blt I hg hm hv ?_)
  refine PyProof.Rows.callWith_type1 ?_ hs rfl
  rw [hs]
  show wpAny _ _ (spliced ((false, eval (.Call (.Attribute e "values" apos) [] [] cpos) X.env) :: backTo pos (starEach [] X.env))) _ _ s
  refine Calls.spliced_cons ?_
  refine wpAny_Call_method (T := "dict") (id := "dict.values") hbase rfl hline F.plainAttrs_dict F.slot_dict_values F.type_dict_values (thn (he.run pins s σ H _ I hq) fun u s1 ⟨x, H1, I1, rx, d, kvs, ex, hd, q⟩ => ?_)
  subst ex
  obtain rfl : u = Value.ref d := rx
  obtain ⟨hz, hs0, vs, kv, hdo⟩ := I1.hok d _ hd
  obtain ⟨ep, hat⟩ := hdo.dictAt
  have lk : kvs.length = vs.length := Paired.length kv
  have I2 : Inv X pins σ H1 { s1 with heap := s1.heap.push { cls := .type "dict_values", data := .fields #[.ref d] } } := I1.kept (t' := s1.toks) fun b ob q => Heap.get?_push_of_some _ q
  refine ⟨hdo.typeIs, hdo.mapOf.noDict, ?_⟩
  show wpAny _ _ (callWith cpos (.builtin "dict.values") [.ref d] [] []) _ X.xe s1
  refine method_meetsIn F.slot_dict_values F.entry_dict_values rfl (PySem.evalArgs_none ⟨rfl, hdo.typeIs, F.args_dict_values_1 _, _, meets_dict_values (mixKind X.prog X.w) d hs0, ⟨vs, hdo⟩, ?_⟩)
  refine Calls.spliced_nil ?_
  refine PySem.W.kdl_call (PySem.W.kdl_values (knd := mixKind X.prog X.w) (kvs := vs) (ep := ep) (d := d)) (I1.ok.hd hc) ⟨⟨_, Heap.get?_push_size _ rfl, rfl, rfl⟩, hat.push _⟩ (by omega) fun h' tk acc c hk hS hacc => ?_
  have J := I2.kept (t' := tk) hk
  have ev : acc.toList = vs.map (·.2) := by
    refine PySem.W.kdl_vals_eq acc.toList (by rw [Array.length_toList]; exact hacc.1) fun j v e => hacc.2 j v (by rw [← Array.getElem?_toList]; exact e)
  have new : ObjOk X.prog X.w (upd H1 (s1.heap.push { cls := .type "dict_values", data := .fields #[.ref d] }).objs.size (.lst (kvs.map (·.2)))) h' (s1.heap.push { cls := .type "dict_values", data := .fields #[.ref d] }).objs.size (.lst (kvs.map (·.2))) :=
    ⟨by rw [List.length_map]; exact hz, acc.toList, c, by rw [ev]; exact vals_snd kv, by rw [Array.toArray_toList]; exact hS⟩
  exact ⟨.ref _, upd H1 _ (.lst (kvs.map (·.2))), I2.laid (t' := tk) hk (Nat.le_refl _) new, rfl, q _ (I2.hok.fresh (Nat.le_refl _))⟩
end

/-! ### the law: what a room tells -/
def datLI (rs : List (List Nat)) : PyData := .list (rs.map fun r => .list (r.map fun n => PyData.int (n : Nat)))
def datLS (ts : List (List Str)) : PyData := .list (ts.map fun t => .list (t.map PyData.str))
theorem dp_WI {K : PySem.W.Frag} {H : Hp} {l : Addr} {no : List Addr} {rs : List (List Nat)} (h : RowsX H l no (WI rs)) : Dp K H (.ref l) (datLI rs) := by
  obtain ⟨xs, hx, lx, at'⟩ := h.at'
  refine .lst (SqL.of hx) (dp_all (by rw [lx]; unfold WI; rw [List.length_map, List.length_map]) fun i x d e1 e2 => ?_)
  rw [List.getElem?_map] at e2
  obtain ⟨r, er, rfl⟩ := Option.map_eq_some_iff.mp e2
  obtain ⟨q, eq, hq, _⟩ := at' i (VI r) (by unfold WI; rw [List.getElem?_map, er]; rfl)
  rw [e1] at eq
  obtain rfl := Option.some.inj eq
  exact .lst (SqL.of hq) (dp_vi r)
theorem dp_WS {K : PySem.W.Frag} {H : Hp} {l : Addr} {no : List Addr} {rs : List (List Str)} (h : RowsX H l no (WS rs)) : Dp K H (.ref l) (datLS rs) := by
  obtain ⟨xs, hx, lx, at'⟩ := h.at'
  refine .lst (SqL.of hx) (dp_all (by rw [lx]; unfold WS; rw [List.length_map, List.length_map]) fun i x d e1 e2 => ?_)
  rw [List.getElem?_map] at e2
  obtain ⟨r, er, rfl⟩ := Option.map_eq_some_iff.mp e2
  obtain ⟨q, eq, hq, _⟩ := at' i (r.map V.str) (by unfold WS; rw [List.getElem?_map, er]; rfl)
  rw [e1] at eq
  obtain rfl := Option.some.inj eq
  exact .lst (SqL.of hq) (dp_strs r)
theorem datLI_is (rs : List (List Nat)) : datLI rs = PySem.W.Datum.toD (rs.map fun r => r.map fun n => ((n : Nat) : Int)) := by
  unfold datLI
  show PyData.list _ = PyData.list ((rs.map fun r => r.map fun n => ((n : Nat) : Int)).map PySem.W.Datum.toD)
  rw [List.map_map]
  congr 1
  refine List.map_congr_left fun r _ => ?_
  show PyData.list _ = PyData.list ((r.map fun n => ((n : Nat) : Int)).map PySem.W.Datum.toD)
  rw [List.map_map]
  rfl
theorem shaped_LI (rs : List (List Nat)) : SeqAt.shaped (datLI rs) = true := by
  unfold SeqAt.shaped
  rw [Bool.and_eq_true_iff]
  constructor
  · unfold datLI
    rw [PyData.canLay0]
    exact lay_map fun r _ => by rw [PyData.canLay0]; exact lay_I r
  · rw [datLI_is]
    exact decide_eq_true (Nat.le_trans (PySem.W.Datum.depth_le _) (by decide))
theorem shaped_LS {ts : List (List Str)} (h : AscR ts) : SeqAt.shaped (datLS ts) = true := by
  unfold SeqAt.shaped
  rw [Bool.and_eq_true_iff]
  constructor
  · unfold datLS
    rw [PyData.canLay0]
    exact lay_map fun t m => by rw [PyData.canLay0]; exact lay_S (h t m)
  · refine decide_eq_true (Nat.le_trans (?_ : _ ≤ PySem.W.Datum.depth (List (List Str))) (by decide))
    exact PySem.W.Datum.depth_le (α := List (List Str)) ts
theorem eqv_LI (rs rs2 : List (List Nat)) : PyData.eqv (datLI rs) (datLI rs2) = decide (rs = rs2) := by
  rw [datLI_is, datLI_is, PySem.W.Datum.eqv]
  exact decide_eq_decide.mpr ⟨fun h => (List.map_inj_right (fun a b e => cast_inj e)).mp h, fun h => by rw [h]⟩
theorem eqv_LS (ts ts2 : List (List Str)) : PyData.eqv (datLS ts) (datLS ts2) = decide (ts = ts2) := PySem.W.Datum.eqv ts ts2
theorem flat_le : ∀ (ts : List (List Str)), (∀ t ∈ ts, t.length ≤ 10) → ts.flatten.length ≤ 10 * ts.length
  | [], _ => by simp
  | t :: ts, h => by
    have h1 := h t List.mem_cons_self
    have h2 := flat_le ts fun u m => h u (List.mem_cons_of_mem _ m)
    rw [List.flatten_cons, List.length_append, List.length_cons]
    omega
def datRl (rs : List (List Nat)) (ts : List (List Str)) : PyData := .list ((rs.zip ts).map fun p => .tuple [datI p.1, datS p.2])
theorem datRl_is (rs : List (List Nat)) (ts : List (List Str)) : datRl rs ts = PySem.W.Datum.toD (drOf rs ts).items := by
  have e := datR_is rs ts
  unfold datR at e
  unfold datRl
  exact congrArg PyData.list (PyData.tuple.inj e)
theorem shaped_Rl {rs : List (List Nat)} {ts : List (List Str)} (h : AscR ts) : SeqAt.shaped (datRl rs ts) = true := by
  unfold SeqAt.shaped
  rw [Bool.and_eq_true_iff]
  constructor
  · unfold datRl
    rw [PyData.canLay0]
    refine lay_map fun p hp => ?_
    have ht := (List.of_mem_zip hp).2
    rw [PyData.canLay0, PyData.canLayAll0, PyData.canLayAll0, PyData.canLayAll0]
    unfold datI datS
    rw [PyData.canLay0, PyData.canLay0, lay_I, lay_S (h _ ht)]
    rfl
  · rw [datRl_is]
    exact decide_eq_true (Nat.le_trans (PySem.W.Datum.depth_le _) (by decide))
theorem str_ext30 {a b : Str} (h : a.cps.toList = b.cps.toList) : a = b := by
  cases a
  cases b
  exact congrArg _ (Array.toList_inj.mp h)
theorem same_len {xs ys : List Str} (h1 : xs.Nodup) (h2 : ys.Nodup) (h : ∀ x, x ∈ xs ↔ x ∈ ys) : xs.length = ys.length :=
  Nat.le_antisymm (List.Nodup.length_le_of_subset h1 fun x m => (h x).mp m) (List.Nodup.length_le_of_subset h2 fun x m => (h x).mpr m)
theorem empty_app (x : Str) : Str.empty ++ x = x := str_ext30 (by
  show tl (Str.empty ++ x) = tl x
  rw [tl_append]
  rfl)
def sp__law_told_right (_ : PySem.W.Frag) : Sp := fun vs H Q _ => ∃ (a : Addr) (rs : List (List Nat)) (ts : List (List Str)) (no : List Addr), vs = [.ref a] ∧ RoomD H no a rs ts ∧ OrdP rs ∧ TruP rs ts ∧ rs.length ≤ 5 ∧ (∀ t ∈ ts, t.length ≤ 10) ∧ ∀ H', Same H H' → Q (.bl true) H'
section
variable {P : Program} {w : World} {K : PySem.W.Frag} {mg : Str → Option Value} {base : Heap} {C_Room : Addr}
theorem ok__law_told_right (T : Txt K mg C_Room) (c__law_made_room : Cal P w K mg base "_law_made_room" 6 ["_law_room_here"] (sp__law_made_room K C_Room)) (p_Room_atoms : PrpC P w K mg base C_Room "atoms" 1 ["self"] (sp_Room_atoms K C_Room)) (p_Room_reach : PrpC P w K mg base C_Room "reach" 1 ["self"] (getSp C_Room "_reach")) (p_Room_truths : PrpC P w K mg base C_Room "truths" 1 ["self"] (getSp C_Room "_truths")) (m_Room___len__ : MetC P w K mg base C_Room "__len__" 1 ["self"] (sp_Room___len__ K C_Room)) (m_Room___getitem__ : MetC P w K mg base C_Room "__getitem__" 2 ["self", "at"] (sp_Room___getitem__ K C_Room)) (m_Room___str__ : MetC P w K mg base C_Room "__str__" 3 ["self"] (sp_Room___str__ K C_Room)) {f : Addr} {fd : FuncData} (F : Fun K "_law_told_right" "_law_told_right" s__law_told_right f fd) : FnOkG P w K mg base CX0 7 f fd ["_law_room_here"] (sp__law_told_right K) := by
  have nd := sc__law_told_right.nd
  refine F.okG sc__law_told_right (fun vs H Q E h => ?_) (fun cdv A outer s H vs Q E hr hG h => ?_)
  · obtain ⟨a, rs, ts, no, rfl, _⟩ := h
    rfl
  · obtain ⟨a, rs, ts, no, rfl, rd, ord, tru, l5, tl, q⟩ := h
    refine ⟨_, (pss_cons (ps_asg (pe_tup (pa_cons (pe_callC c__law_made_room (hr.mono (by first | decide | omega)) hG rfl (pa_cons (pv 0) pa_nil)) (pa_cons (pe_callB call_len (by rfl) T.b_len (by decide +kernel) (pa_cons (pe_dget (by first | exact Nat.lt_of_le_of_lt (Nat.add_le_add_left (by decide : 1 ≤ 64) _) hr.units | exact Nat.lt_of_le_of_lt (Nat.add_le_add_left (by decide : 4 ≤ 64) _) hr.units | exact Nat.lt_of_le_of_lt (Nat.add_le_add_left (by decide : 7 ≤ 64) _) hr.units) (pv 0) pe_str (fun _ _ => rfl)) pa_nil)) pa_nil))) (pg_tup (by rfl) (pgs_cons (pg_name (i := 1) nd rfl (.inr rfl)) (pgs_cons (pg_name (i := 2) nd rfl (.inl rfl)) pgs_nil))))
      (pss_cons (ps_if (PW.pt (pw_or (pt_cmpR (op_neD hr.units) (pe_lcD (own := [("_law_row", 4)]) (by rfl) nd (pi_tup (pe_propC p_Room_reach T.k_Room (hr.mono (by first | decide | omega)) (pv 1))) (blkOk_by (own := [("_law_row", 4)]) (N := ["_law_room_here", "_law_told", "_law_size", "_law_atoms", "_law_row", "_law_at"]) (sc := (defScope s__law_told_right)) (by decide +kernel)) (fun _ _ _ _ _ => pg_name (i := 4) nd rfl (Or.inl rfl)) (fun _ _ _ _ _ => pts_nil) (fun _ _ _ _ _ => (pe_callTy call_list_of (by rfl) T.b_list (by decide +kernel) (pa_cons (pv 4) pa_nil)))) (pe_dget (by first | exact Nat.lt_of_le_of_lt (Nat.add_le_add_left (by decide : 1 ≤ 64) _) hr.units | exact Nat.lt_of_le_of_lt (Nat.add_le_add_left (by decide : 4 ≤ 64) _) hr.units | exact Nat.lt_of_le_of_lt (Nat.add_le_add_left (by decide : 7 ≤ 64) _) hr.units) (pv 0) pe_str (fun _ _ => rfl)) (nomark _)) (pw_or1 (pt_cmpR (op_neD hr.units) (pe_lcD (own := [("_law_row", 4)]) (by rfl) nd (pi_tup (pe_propC p_Room_truths T.k_Room (hr.mono (by first | decide | omega)) (pv 1))) (blkOk_by (own := [("_law_row", 4)]) (N := ["_law_room_here", "_law_told", "_law_size", "_law_atoms", "_law_row", "_law_at"]) (sc := (defScope s__law_told_right)) (by decide +kernel)) (fun _ _ _ _ _ => pg_name (i := 4) nd rfl (Or.inl rfl)) (fun _ _ _ _ _ => pts_nil) (fun _ _ _ _ _ => (pe_callTy call_list_of (by rfl) T.b_list (by decide +kernel) (pa_cons (pv 4) pa_nil)))) (pe_dget (by first | exact Nat.lt_of_le_of_lt (Nat.add_le_add_left (by decide : 1 ≤ 64) _) hr.units | exact Nat.lt_of_le_of_lt (Nat.add_le_add_left (by decide : 4 ≤ 64) _) hr.units | exact Nat.lt_of_le_of_lt (Nat.add_le_add_left (by decide : 7 ≤ 64) _) hr.units) (pv 0) pe_str (fun _ _ => rfl)) (nomark _))))) (pss_one (ps_ret pe_bl)) pss_nil)
      (pss_cons (ps_set (i := 3) nd rfl (.inl rfl) (pe_lst pa_nil))
      (pss_cons (ps_for PassesOwn.never rfl (pi_list (pe_dget (by first | exact Nat.lt_of_le_of_lt (Nat.add_le_add_left (by decide : 1 ≤ 64) _) hr.units | exact Nat.lt_of_le_of_lt (Nat.add_le_add_left (by decide : 4 ≤ 64) _) hr.units | exact Nat.lt_of_le_of_lt (Nat.add_le_add_left (by decide : 7 ≤ 64) _) hr.units) (pv 0) pe_str (fun _ _ => rfl))) (pg_name (i := 4) nd rfl (.inl rfl)) (pss_one (ps_set (i := 3) nd rfl (.inl rfl) (pe_op op_cat (pv 3) (pv 4)))))
      (pss_cons (ps_if (PW.pt (pw_or (pt_cmpR (op_neD hr.units) (pe_callTy call_list_of (by rfl) T.b_list (by decide +kernel) (pa_cons (pe_propC p_Room_atoms T.k_Room (hr.mono (by first | decide | omega)) (pv 1)) pa_nil)) (pe_callB (cr_sortS rfl) (by rfl) T.b_sorted (by decide +kernel) (pa_cons (pe_callTy (cr_setE rfl) (by rfl) T.b_set (by decide +kernel) (pa_cons (pv 3) pa_nil)) pa_nil)) (nomark _)) (pw_or1 (pt_cmpR op_ne (pe_callB (call_lenO m_Room___len__ (hr.mono (by first | decide | omega))) (by rfl) T.b_len (by decide +kernel) (pa_cons (pv 1) pa_nil)) (pv 2) (nomark _))))) (pss_one (ps_ret pe_bl)) pss_nil)
      (pss_cons (ps_if (pt_cmpR (op_neD hr.units) (pe_lcD (own := [("_law_at", 5)]) (by rfl) nd (pi_range1 (by rfl) T.b_range (pa_cons (pv 2) pa_nil)) (blkOk_by (own := [("_law_at", 5)]) (N := ["_law_room_here", "_law_told", "_law_size", "_law_atoms", "_law_row", "_law_at"]) (sc := (defScope s__law_told_right)) (by decide +kernel)) (fun _ _ _ _ _ => pg_name (i := 5) nd rfl (Or.inl rfl)) (fun _ _ _ _ _ => pts_nil) (fun _ _ _ _ _ => (pe_ixO m_Room___getitem__ (hr.mono (by first | decide | omega)) (pv 1) (pv 5) T.x_Room.fn_getitem))) (pe_listzipT rfl (by rfl) T.b_list (by rfl) T.b_zip (pa_cons (pe_propC p_Room_reach T.k_Room (hr.mono (by first | decide | omega)) (pv 1)) (pa_cons (pe_propC p_Room_truths T.k_Room (hr.mono (by first | decide | omega)) (pv 1)) pa_nil))) (nomark _)) (pss_one (ps_ret pe_bl)) pss_nil)
      (pss_one (ps_ret (pe_cmpR op_eq (pe_callTy (call_strO m_Room___str__ (hr.mono (by first | decide | omega))) (by rfl) T.b_str (by decide +kernel) (pa_cons (pv 1) pa_nil)) (pe_op op_add_str (pe_op op_add_str (pe_op op_add_str (pe_callTy call_str_int (by rfl) T.b_str (by decide +kernel) (pa_cons (pv 2) pa_nil)) pe_str) (pe_callTy call_str_int (by rfl) T.b_str (by decide +kernel) (pa_cons (pe_callB call_lenS (by rfl) T.b_len (by decide +kernel) (pa_cons (pe_callTy (cr_setE rfl) (by rfl) T.b_set (by decide +kernel) (pa_cons (pv 3) pa_nil)) pa_nil)) pa_nil))) pe_str) (nomark _)))))))))), ?_⟩
    have asc : AscR ts := fun t m x mx => (isW_ascii ((tru.2.1 t m).2 x mx)).2
    obtain ⟨p, q', ha, g1, g2, _, _, _⟩ := rd.ex
    obtain ⟨xs, hxs, lxs, _⟩ := g1.at'
    have lx : xs.length = rs.length := by rw [lxs]; unfold WI; rw [List.length_map]
    refine ⟨.ref a, rfl, a, rs, ts, no, rfl, rd, ord, tru, l5, fun t m => ⟨by have := tl t m; omega, fun x mx => ⟨by have := (isW_ascii ((tru.2.1 t m).2 x mx)).1; omega, asc t m x mx⟩⟩, fun v G s1 rm => ?_⟩
    refine ⟨.ref a, rfl, a, .ref p, rfl, get_reach (s1 _ _ ha), .ref p, _, rfl, .inl ⟨_, SqL.of (s1 _ _ hxs), rfl⟩, lt_line (by show 2 ≤ 1000000; decide), fun t ht => ⟨t, _, rfl, .of upd_same, rfl, _, _, rfl, asg_go2 ⟨_, _, rfl, asg_go2 ⟨rfl, ?_⟩⟩⟩⟩
    dsimp only [List.set]
    rw [lx]
    have s2 := s1.new (o := .tup [v, .int (rs.length : Nat)]) ht
    have rm := rm.same ((Same.refl G).new (o := .tup [v, .int (rs.length : Nat)]) ht)
    generalize upd G t (.tup [v, .int (rs.length : Nat)]) = G2 at s2 rm ⊢
    obtain ⟨⟨x, dx, p1, p2, rw, ab, xs1, xs2, ps, rfl, hx, h1, v1, h2, v2, h3, lps, at'⟩, _, _⟩ := id rm
    have l1 : xs1.length = rs.length := v1.1.trans (List.length_map _)
    have l2 : xs2.length = ts.length := v2.1.trans (List.length_map _)
    refine ⟨.ref x, rfl, x, dx, _, rfl, hx, x, dx, _, .ref p1, rfl, hx, rfl, p1, rfl, ⟨_, SqT.of h1⟩, fun D hD => lc_tup (xs := xs1) (fun i H' => RowsX H' D [D] (WI (rs.take i)) ∧ Same G2 H') ⟨⟨[], upd_same, rfl, (fun q m => nomatch m), fun i q row e => nomatch e⟩, (Same.refl G2).mut hD⟩ (fun i H' _ hP => SqT.of (hP.2 _ _ h1)) (fun i y H' hy hP => ?_) (fun H3 hP => ?_)⟩
    · obtain ⟨gD, s3⟩ := hP
      obtain ⟨r, hr, hv⟩ := v1.2 i y hy
      rw [List.getElem?_map] at hr
      obtain ⟨row, er, rfl⟩ := Option.map_eq_some_iff.mp hr
      obtain ⟨qd, rfl, hq, l100, _⟩ := hv
      have li := lt_of_get er
      refine ⟨rfl, tyes ?_⟩
      refine ⟨.ref qd, rfl, qd, _, rfl, .inr (SqT.of (s3 _ _ hq)), fun pn hpn => ?_⟩
      have gD2 := gD.new (o := .lst (VI row)) hpn
      obtain ⟨acc, hacc, lacc, _⟩ := gD2.at'
      have nD : pn ∉ [D] := fun m => by
        obtain ⟨_, hb, _, _⟩ := gD.at'
        rw [List.mem_singleton.mp m, hb] at hpn
        cases hpn
      refine ⟨acc, hacc, lt_line' (by rw [lacc]; unfold WI; rw [List.length_map, List.length_take]; omega), ?_, (s3.new hpn).mut hD⟩
      have z := gD2.push hacc upd_same nD (by simp)
      rw [show WI (rs.take i) ++ [VI row] = WI (rs.take (i + 1)) by unfold WI; rw [take_next er, List.map_append]; rfl] at z
      exact z
    obtain ⟨gD, s3⟩ := hP
    rw [l1, List.take_length] at gD
    have g1' := g1.same (s2.trans s3)
    refine ⟨.ref a, rfl, a, .ref p, rfl, get_reach ((s2.trans s3) _ _ ha), _, _, dp_WI gD, dp_WI g1', shaped_LI rs, shaped_LI rs, _, rfl, ?_⟩
    rw [eqv_LI, decide_eq_true rfl]
    refine iteF ?_
    refine ⟨.ref x, rfl, x, dx, _, rfl, s3 _ _ hx, x, dx, _, .ref p2, rfl, s3 _ _ hx, rfl, p2, rfl, ⟨_, SqT.of (s3 _ _ h2)⟩, fun D2 hD2 => lc_tup (xs := xs2) (fun i H' => RowsX H' D2 [D2] (WS (ts.take i)) ∧ Same H3 H') ⟨⟨[], upd_same, rfl, (fun q m => nomatch m), fun i q row e => nomatch e⟩, (Same.refl H3).mut hD2⟩ (fun i H' _ hP => SqT.of (hP.2 _ _ (s3 _ _ h2))) (fun i y H' hy hP => ?_) (fun H4 hP => ?_)⟩
    · obtain ⟨gD, s4⟩ := hP
      obtain ⟨r, hr, hv⟩ := v2.2 i y hy
      rw [List.getElem?_map] at hr
      obtain ⟨row, er, rfl⟩ := Option.map_eq_some_iff.mp hr
      obtain ⟨qd, rfl, hq, l100, _⟩ := hv
      have li := lt_of_get er
      have := tru.1
      refine ⟨rfl, tyes ?_⟩
      refine ⟨.ref qd, rfl, qd, _, rfl, .inr (SqT.of (s4 _ _ (s3 _ _ hq))), fun pn hpn => ?_⟩
      have gD2 := gD.new (o := .lst (row.map V.str)) hpn
      obtain ⟨acc, hacc, lacc, _⟩ := gD2.at'
      have nD : pn ∉ [D2] := fun m => by
        obtain ⟨_, hb, _, _⟩ := gD.at'
        rw [List.mem_singleton.mp m, hb] at hpn
        cases hpn
      refine ⟨acc, hacc, lt_line' (by rw [lacc]; unfold WS; rw [List.length_map, List.length_take]; omega), ?_, (s4.new hpn).mut hD2⟩
      have z := gD2.push hacc upd_same nD (by simp)
      rw [show WS (ts.take i) ++ [row.map V.str] = WS (ts.take (i + 1)) by unfold WS; rw [take_next er, List.map_append]; rfl] at z
      exact z
    obtain ⟨gE, s4⟩ := hP
    rw [l2, List.take_length] at gE
    have s5 := (s2.trans s3).trans s4
    have s34 := s3.trans s4
    have g2' := g2.same s5
    refine ⟨.ref a, rfl, a, .ref q', rfl, get_truths (s5 _ _ ha), _, _, dp_WS gE, dp_WS g2', shaped_LS asc, shaped_LS asc, _, rfl, ?_⟩
    rw [eqv_LS, decide_eq_true rfl]
    refine iteF (nx_go ?_)
    -- the atoms, one row behind the other
    refine ⟨Nat.zero_le _, fun A0 hA0 => asg_go2 ?_⟩
    dsimp only [List.set]
    have sA := s5.new (o := .lst []) hA0
    have sA2 := s34.new (o := .lst []) hA0
    have hA : upd H4 A0 (.lst []) A0 = some (.lst ((([] : List Str)).map V.str)) := upd_same
    generalize upd H4 A0 (.lst []) = H5 at sA sA2 hA ⊢
    obtain ⟨zs, hzs, lzs, atz⟩ := g2.at'
    have lz : zs.length = ts.length := by rw [lzs]; unfold WS; rw [List.length_map]
    refine cut_for (fun σ' H' => (∃ A s4 s5, σ' = [some (.ref a), some (.ref x), some (.int (rs.length : Nat)), some (.ref A), s4, s5] ∧ H' A = some (.lst (ts.flatten.map V.str))) ∧ Same H5 H') (fun N hN => ?_) (fun σ' H6 hP => ?_)
    · refine ⟨.ref a, rfl, a, .ref q', rfl, get_truths (sA _ _ ha), q', rfl, ⟨_, SqL.of (sA _ _ hzs)⟩, for_list (xs := zs) (fun i σ' H' => (∃ A s4 s5, σ' = [some (.ref a), some (.ref x), some (.int (rs.length : Nat)), some (.ref A), s4, s5] ∧ H' A = some (.lst ((ts.take i).flatten.map V.str))) ∧ Same H5 H') ⟨⟨A0, _, _, rfl, hA⟩, Same.refl H5⟩ (fun i σ' H' _ hP => SqL.of (hP.2 _ _ (sA _ _ hzs))) (fun i y σ' H' hy hP => ?_) (fun σ' H' hP => hN _ _ (by rw [lz, List.take_length] at hP; exact hP))⟩
      obtain ⟨⟨A, u4, u5, rfl, hA6⟩, s6⟩ := hP
      have li := lt_of_get hy
      have et := List.getElem?_eq_getElem (show i < ts.length by omega)
      generalize ts[i]'(show i < ts.length by omega) = tw at et
      obtain ⟨qd, ey, hq, _⟩ := atz i (tw.map V.str) (by unfold WS; rw [List.getElem?_map, et]; rfl)
      rw [hy] at ey
      obtain rfl := Option.some.inj ey
      have sub : (ts.take (i + 1)).flatten = (ts.take i).flatten ++ tw := by rw [take_next et, List.flatten_append]; simp
      have lf := flat_le (ts.take i) fun u m => tl u (List.mem_of_mem_take m)
      have lt10 := tl tw (List.mem_of_getElem? et)
      have := tru.1
      rw [List.length_take] at lf
      refine ⟨.ref A, rfl, .ref qd, rfl, A, qd, _, _, rfl, rfl, hA6, s6 _ _ (sA _ _ hq), lt_line (by rw [List.length_map, List.length_map]; omega), fun pn hpn => ?_⟩
      rw [← List.map_append, ← sub]
      exact ⟨⟨pn, _, _, rfl, upd_same⟩, s6.new hpn⟩
    · obtain ⟨⟨A, u4, u5, rfl, hA6⟩, s6⟩ := hP
      have l64 : ts.flatten.length < 64 := by have := flat_le ts tl; have := tru.1; omega
      have s7 := sA2.trans s6
      have s8 := sA.trans s6
      have rm6 := rm.same s7
      have hx6 := s7 _ _ hx
      refine ⟨.ref x, rfl, x, dx, _, rfl, hx6, .ref x, rs, ts, rfl, rm6, l64, fun l ys H7 ap s9 hl => ⟨l, _, rfl, .inr (SqT.of hl), fun l2 hl2 => ?_⟩⟩
      have s10 := s9.new (o := .lst (ys.map V.str)) hl2
      have hl3 : upd H7 l2 (.lst (ys.map V.str)) l2 = some (.lst (ys.map V.str)) := upd_same
      generalize upd H7 l2 (.lst (ys.map V.str)) = G3 at s10 hl3 ⊢
      refine ⟨.ref A, rfl, A, ts.flatten, rfl, .inr (SqL.of (s10 _ _ hA6)), l64, fun a3 L3 ha3 lL3 mem3 => ⟨a3, L3, rfl, upd_same, by omega, fun ys2 pn3 pm3 nd3 so3 hpn3 => ?_⟩⟩
      have nul : ∀ {o : HO} {G0 : Hp} {b c : Addr}, upd G0 b o c = none → c ≠ b ∧ G0 c = none := fun {o G0 b c} h => by
        by_cases e : c = b
        · rw [e, upd_same] at h
          cases h
        · rw [upd_ne e] at h
          exact ⟨e, h⟩
      have same3 : ∀ (o o2 : HO), Same G3 (upd (upd G3 a3 o) pn3 o2) := fun o o2 => ((Same.refl G3).new ha3).new ((upd_ne (nul hpn3).1).trans (nul hpn3).2)
      have mem4 : ∀ z, z ∈ ys2 ↔ z ∈ ts.flatten := fun z => (pm3.mem_iff).trans (mem3 z)
      have ascF : ∀ z ∈ ts.flatten, ∀ c ∈ z.cps.toList, c < 128 := fun z m => by
        obtain ⟨t, mt, mz⟩ := List.mem_flatten.mp m
        exact asc t mt z mz
      refine ⟨_, _, .lst (SqL.of (same3 _ _ _ _ hl3)) (dp_strs ys), .lst (SqL.of upd_same) (dp_strs ys2), shaped_S (fun z m => ascF z ((ap.2.2 z).mp m)), shaped_S (fun z m => ascF z ((mem4 z).mp m)), _, rfl, ?_⟩
      rw [eqv_strs, decide_eq_true (asc_unique (fun a h => ltS_ne h rfl) (fun _ _ _ => ltS_trans) (sorted_asc ap.1 ap.2.1) (sorted_asc so3 nd3) fun z => (ap.2.2 z).trans (mem4 z).symm)]
      generalize eG3 : upd (upd G3 a3 _) pn3 (HO.lst (ys2.map V.str)) = G8
      have s11 : Same H6 G8 := s10.trans (eG3 ▸ same3 _ _)
      clear eG3
      refine iteF ?_
      have s12 := s7.trans s11
      have rm8 := rm.same s12
      have hx8 := s12 _ _ hx
      refine ⟨.ref x, rfl, x, dx, _, rfl, hx8, .ref x, rs, ts, rfl, rm8, rs.length, rfl, by omega, .int (rs.length : Nat), rfl, rfl, _, rfl, ?_⟩
      rw [decide_eq_true rfl]
      refine iteF (nx_go ?_)
      have lpr : ps.length = rs.length := by omega
      refine ⟨.int (rs.length : Nat), rfl, (rs.length : Int), rfl, by omega, by omega, fun D3 hD3 => ?_⟩
      rw [Int.toNat_natCast]
      refine lc_range (lo := 0) (n := rs.length) (fun i H' => H' D3 = some (.lst ((ps.take i).map V.ref)) ∧ Same G8 H') ⟨upd_same, (Same.refl G8).mut hD3⟩ (fun i H' hi hP => ?_) (fun H9 hP => ?_)
      · obtain ⟨hD4, s13⟩ := hP
        have ep := List.getElem?_eq_getElem (show i < ps.length by omega)
        rw [show (0 : Int) + (i : Nat) = ((i : Nat) : Int) by omega]
        refine ⟨rfl, tyes ?_⟩
        refine ⟨.ref x, rfl, .int (i : Nat), rfl, x, dx, _, rfl, s13 _ _ hx8, x, dx, p1, p2, rw, ab, _, ps, i, _, rfl, s13 _ _ hx8, rfl, s13 _ _ (s12 _ _ h3), by omega, ep, fun H' s14 => ?_⟩
        exact ⟨_, s14 _ _ hD4, lt_line' (by rw [List.length_map, List.length_take]; omega), by rw [upd_same, take_next ep, List.map_append]; rfl, (s13.trans s14).mut hD3⟩
      obtain ⟨hD4, s13⟩ := hP
      rw [← lpr, List.take_length] at hD4
      have s14 := s12.trans s13
      have hx9 := s14 _ _ hx
      have hlt := tru.1
      refine ⟨.ref x, rfl, x, dx, _, rfl, hx9, x, dx, _, .ref p1, rfl, hx9, rfl, .ref x, rfl, x, dx, _, rfl, hx9, x, dx, _, .ref p2, rfl, hx9, rfl, p1, p2, xs1, xs2, rfl, SqT.of (s14 _ _ h1), SqT.of (s14 _ _ h2), by omega, by omega, fun z3 ps2 H10 s15 hz3 lps2 at2 => ?_⟩
      have s16 := s14.trans s15
      have rowsD : ∀ {L : Addr} {pp : List Addr}, H10 L = some (.lst (pp.map V.ref)) → pp.length = xs1.length → (∀ (i : Nat) (p : Addr) (a b : V), pp[i]? = some p → xs1[i]? = some a → xs2[i]? = some b → H10 p = some (.tup [a, b])) → Dp K H10 (.ref L) (datRl rs ts) := fun {L pp} hL lp atp => by
        refine .lst (SqL.of hL) (dp_all (by rw [List.length_map, List.length_map, List.length_zip]; omega) fun i y dd e1 e2 => ?_)
        rw [List.getElem?_map] at e1 e2
        obtain ⟨p, ep, rfl⟩ := Option.map_eq_some_iff.mp e1
        obtain ⟨⟨r, t⟩, ez, rfl⟩ := Option.map_eq_some_iff.mp e2
        obtain ⟨er, et⟩ := List.getElem?_zip_eq_some.mp ez
        have li := lt_of_get er
        have y1 := List.getElem?_eq_getElem (show i < xs1.length by omega)
        have y2 := List.getElem?_eq_getElem (show i < xs2.length by omega)
        obtain ⟨r1, hr1, hv1⟩ := (v1.same s16).2 i _ y1
        obtain ⟨r2, hr2, hv2⟩ := (v2.same s16).2 i _ y2
        rw [List.getElem?_map] at hr1 hr2
        rw [show rs[i]? = some r from er] at hr1
        rw [show ts[i]? = some t from et] at hr2
        obtain rfl := Option.some.inj hr1
        obtain rfl := Option.some.inj hr2
        obtain ⟨q1, f1, g1, _⟩ := hv1
        obtain ⟨q2, f2, g2, _⟩ := hv2
        have hp := atp i p _ _ ep y1 y2
        rw [f1, f2] at hp
        exact .tup (SqT.of hp) (.cons (.tup (SqT.of g1) (dp_vi r)) (.cons (.tup (SqT.of g2) (dp_strs t)) .nil))
      refine ⟨_, _, rowsD (s15 _ _ hD4) lps (fun i p a b e1 e2 e3 => s16 _ _ (at' i p a b e1 e2 e3)), rowsD hz3 lps2 at2, shaped_Rl asc, shaped_Rl asc, _, rfl, ?_⟩
      rw [PySem.SeqAt.eqv_refl _ (SeqAt.canLay_of_shaped (shaped_Rl asc))]
      refine iteF (nx_go ?_)
      have rm10 := rm.same s16
      refine ⟨.ref x, rfl, x, dx, _, rfl, s16 _ _ hx, .ref x, rs, ts, rfl, rm10, l64, fun ys3 H11 ap3 s17 => ⟨_, rfl, ?_⟩⟩
      have lg : ∀ n : Nat, n < 64 → ((n : Nat) : Int).natAbs.log2 < 1920 := fun n hn => Nat.lt_of_le_of_lt (Nat.log2_le_self _) (by omega)
      have t8 := int_small rs.length (by omega)
      have w8 : (" worlds, " : Str).length = 9 := by decide +kernel
      have w6 : (" atoms" : Str).length = 6 := by decide +kernel
      refine ⟨.int (rs.length : Nat), rfl, (rs.length : Nat), rfl, lg _ (by omega), (toString ((rs.length : Nat) : Int) : Str), (" worlds, " : Str), rfl, rfl, lt_line (by rw [w8]; omega), ?_⟩
      have u2 := len_app (toString ((rs.length : Nat) : Int) : Str) (" worlds, " : Str)
      rw [w8] at u2
      have hA11 := (s11.trans ((s13.trans s15).trans s17)) _ _ hA6
      refine ⟨.ref A, rfl, A, ts.flatten, rfl, .inr (SqL.of hA11), l64, fun a4 L4 ha4 lL4 mem5 => ⟨a4, L4, rfl, upd_same, by omega, fun nd4 => ⟨(L4.length : Nat), rfl, lg _ (by omega), ?_⟩⟩⟩
      have eL : L4.length = ys3.length := same_len nd4 ap3.2.1 fun z => (mem5 z).trans (ap3.2.2 z).symm
      rw [eL]
      have t9 := int_small ys3.length (by omega)
      have u3 := len_app ((toString ((rs.length : Nat) : Int) : Str) ++ (" worlds, " : Str)) (toString ((ys3.length : Nat) : Int) : Str)
      refine ⟨_, _, rfl, rfl, lt_line (by omega), _, (" atoms" : Str), rfl, rfl, lt_line (by rw [w6]; omega), rfl, ?_⟩
      rw [empty_app]
      rw [decide_eq_true rfl]
      exact q _ ((((sA.trans s6).trans s11).trans ((s13.trans s15).trans s17)).new ha4)
end


end My
namespace My
open PySem PySem.Spec PyProof.Rows L2 TL
set_option pp.maxSteps 3000
set_option pp.deepTerms false
/-! ### data of other kinds -/
def OdV (K : PySem.W.Frag) (d : Addr) (H : Hp) (v : V) : Prop := ∀ H', Ext d H H' → ∃ o, OrdV K H' v o ∧ ∀ t, ¬ RoomO o t
def BdV (K : PySem.W.Frag) (d : Addr) (n : Nat) (H : Hp) (v : V) : Prop := ∀ H', Ext d H H' → ∃ t, TruV K H' v t ∧ ∀ (rs : List (List Nat)) (ts : List (List Str)), t = some (ts.map some) → TruP rs ts → rs.length ≠ n
/-- of no tuple's kind -/
def NoTup (K : PySem.W.Frag) (d : Addr) (H : Hp) (v : V) : Prop := ∃ t, (∀ H', Ext d H H' → TyX K H' v t) ∧ PySem.W.kitOne K t (.type "tuple") = some false
section
variable {K : PySem.W.Frag} {d : Addr} {H H' : Hp} {v : V} {n : Nat}
theorem OdV.ext (h : OdV K d H v) (x : Ext d H H') : OdV K d H' v := fun H2 x2 => h H2 (x.trans x2)
theorem BdV.ext (h : BdV K d n H v) (x : Ext d H H') : BdV K d n H' v := fun H2 x2 => h H2 (x.trans x2)
theorem NoTup.ext (h : NoTup K d H v) (x : Ext d H H') : NoTup K d H' v := by
  obtain ⟨t, f, k⟩ := h
  exact ⟨t, fun H2 x2 => f H2 (x.trans x2), k⟩
theorem NoTup.od (h : NoTup K d H v) : OdV K d H v := fun H' x => by
  obtain ⟨t, f, k⟩ := h
  exact ⟨none, ⟨t, fun H2 s => f H2 (x.trans (Ext.same s)), k⟩, fun _ ⟨_, _, e, _⟩ => nomatch e⟩
theorem NoTup.bd (h : NoTup K d H v) : BdV K d n H v := fun H' x => by
  obtain ⟨t, f, k⟩ := h
  exact ⟨none, ⟨t, fun H2 s => f H2 (x.trans (Ext.same s)), k⟩, fun _ _ e => nomatch e⟩
theorem NoTup.rowV (h : NoTup K d H v) (x : Ext d H H') : RowV K H' v none := by
  obtain ⟨t, f, k⟩ := h
  exact .inl ⟨t, fun H2 s => f H2 (x.trans (Ext.same s)), k⟩
theorem NoTup.rowS (h : NoTup K d H v) (x : Ext d H H') : RowS K H' v none := by
  obtain ⟨t, f, k⟩ := h
  exact ⟨t, fun H2 s => f H2 (x.trans (Ext.same s)), k⟩
theorem nt_non : NoTup K d H .non := ⟨.type "NoneType", fun _ _ => .base .non, kit_ty (by decide +kernel)⟩
theorem nt_int {i : Int} : NoTup K d H (.int i) := ⟨.type "int", fun _ _ => .base (.int _), kit_ty (by decide +kernel)⟩
theorem nt_str {x : Str} : NoTup K d H (.str x) := ⟨.type "str", fun _ _ => .base (.str _), kit_ty (by decide +kernel)⟩
theorem nt_lst {a : Addr} {xs : List V} (h : H a = some (.lst xs)) (ne : a ≠ d) : NoTup K d H (.ref a) := ⟨.type "list", fun _ x => .base (.lst (x _ _ ne h)), kit_ty (by decide +kernel)⟩
theorem nt_dk {a : Addr} {xs : List (Key × V)} (h : H a = some (.dK xs)) (ne : a ≠ d) : NoTup K d H (.ref a) := ⟨.type "dict", fun _ x => .base (.dK (x _ _ ne h)), kit_ty (by decide +kernel)⟩
theorem nt_room {C : Addr} {rs : List (List Nat)} {ts : List (List Str)} (k : Cls K C) (x : XRoom K C) (hd : IsDice H d) (h : IsRm K C H v rs ts) : NoTup K d H v := by
  obtain ⟨⟨a, dx, p1, p2, rw, ab, xs1, xs2, ps, rfl, h0, _⟩, _, _⟩ := h
  obtain ⟨n1, n2, n3, hn⟩ := hd
  have ne : a ≠ d := fun e => by rw [e, hn] at h0; cases h0
  exact ⟨.ref C, fun _ e => rm_ty k x (e _ _ ne h0), x.ni_tuple⟩
theorem od_nil {a : Addr} (h : H a = some (.tup [])) (ne : a ≠ d) : OdV K d H (.ref a) := fun H' x => ⟨some [], ⟨a, [], rfl, x _ _ ne h, ⟨rfl, fun i y e => nomatch e⟩, by decide⟩, fun t ⟨rs, ts, e, _, ord, _⟩ => by
  cases rs with
  | nil => exact absurd ord.1.1 (by decide)
  | cons r rs => cases e⟩
theorem od_one {a : Addr} {x : V} (h : H a = some (.tup [x])) (ne : a ≠ d) (hr : ∀ H', Ext d H H' → RowV K H' x none) : OdV K d H (.ref a) := fun H' e => ⟨some [none], ⟨a, [x], rfl, e _ _ ne h, ⟨rfl, fun i y ey => by
  cases i with
  | zero => cases ey; exact ⟨none, rfl, hr H' e⟩
  | succ i => cases ey⟩, by show 1 ≤ 100; decide⟩, fun t ⟨rs, ts, e, _⟩ => by
  cases rs with
  | nil => cases e
  | cons r rs => cases e⟩
theorem rv_tup {a : Addr} {x : V} (h : H a = some (.tup [x])) (ne : a ≠ d) (hv : ∀ H', ValK K H' x) (f : isI x = false) : ∀ H', Ext d H H' → RowV K H' (.ref a) none := fun H' e => .inr ⟨a, x, rfl, e _ _ ne h, fun H2 _ => hv H2, f⟩
theorem bd_nil {a : Addr} (h : H a = some (.tup [])) (ne : a ≠ d) (hn : 1 ≤ n) : BdV K d n H (.ref a) := fun H' x => ⟨some [], ⟨a, [], rfl, x _ _ ne h, ⟨rfl, fun i y e => nomatch e⟩, by decide⟩, fun rs ts e tru => by
  cases ts with
  | nil =>
    have := tru.1
    simp at this
    omega
  | cons r rs => cases e⟩
theorem bd_one {a : Addr} {x : V} (h : H a = some (.tup [x])) (ne : a ≠ d) (hr : ∀ H', Ext d H H' → RowS K H' x none) : BdV K d n H (.ref a) := fun H' e => ⟨some [none], ⟨a, [x], rfl, e _ _ ne h, ⟨rfl, fun i y ey => by
  cases i with
  | zero => cases ey; exact ⟨none, rfl, hr H' e⟩
  | succ i => cases ey⟩, by show 1 ≤ 100; decide⟩, fun rs ts e _ => by
  cases ts with
  | nil => cases e
  | cons r rs => cases e⟩
theorem bd_rep {a q : Addr} (h : H a = some (.tup (List.replicate n (.ref q)))) (ne : a ≠ d) (hq : H q = some (.tup [.str "A"])) (nq : q ≠ d) (n1 : 1 ≤ n) (n2 : n ≤ 100) : BdV K d n H (.ref a) := fun H' e => ⟨some (List.replicate n (some ["A"])), ⟨a, _, rfl, e _ _ ne h, ⟨by rw [List.length_replicate, List.length_replicate], fun i y ey => by
    have lt := lt_of_get ey
    rw [List.length_replicate] at lt
    rw [List.getElem?_replicate, if_pos lt] at ey
    cases ey
    exact ⟨some ["A"], by rw [List.getElem?_replicate, if_pos lt], q, rfl, e _ _ nq hq, by decide, fun x hx => by
      rw [List.mem_singleton.mp hx]
      exact ⟨by decide, by decide +kernel⟩⟩⟩, by rw [List.length_replicate]; exact n2⟩, fun rs ts e tru => by
  have e := Option.some.inj e
  have m : (some (["A"] : List Str)) ∈ List.replicate n (some (["A"] : List Str)) := List.mem_replicate.mpr ⟨Nat.pos_iff_ne_zero.mp n1, rfl⟩
  rw [e] at m
  obtain ⟨r, hr, er⟩ := List.mem_map.mp m
  cases er
  have := (tru.2.1 _ hr).2 "A" (by simp)
  rw [show isW (.str "A") = false by decide +kernel] at this
  cases this⟩
def OdsV (K : PySem.W.Frag) (d : Addr) (H : Hp) (xs : List V) : Prop := ∀ x ∈ xs, OdV K d H x
def BdsV (K : PySem.W.Frag) (d : Addr) (n : Nat) (H : Hp) (xs : List V) : Prop := ∀ x ∈ xs, BdV K d n H x
theorem OdsV.nil : OdsV K d H [] := fun _ h => nomatch h
theorem BdsV.nil : BdsV K d n H [] := fun _ h => nomatch h
theorem OdsV.ext {xs : List V} (h : OdsV K d H xs) (x : Ext d H H') : OdsV K d H' xs := fun y m => (h y m).ext x
theorem BdsV.ext {xs : List V} (h : BdsV K d n H xs) (x : Ext d H H') : BdsV K d n H' xs := fun y m => (h y m).ext x
theorem OdsV.snoc {xs : List V} {y : V} (h : OdsV K d H xs) (hy : OdV K d H y) : OdsV K d H (xs ++ [y]) := fun z m => by
  rcases List.mem_append.mp m with m | m
  · exact h z m
  · rw [List.mem_singleton.mp m]
    exact hy
theorem BdsV.snoc {xs : List V} {y : V} (h : BdsV K d n H xs) (hy : BdV K d n H y) : BdsV K d n H (xs ++ [y]) := fun z m => by
  rcases List.mem_append.mp m with m | m
  · exact h z m
  · rw [List.mem_singleton.mp m]
    exact hy
theorem rep_one {r q : Addr} {Q : VK} (h : H r = some (.tup [.ref q])) (n1 : 1 ≤ n) (n2 : n ≤ 100) (f : ∀ p H', Same H H' → H' p = some (.tup (List.replicate n (.ref q))) → Q (.ref p) H') : rRepA K (.ref r) (.int (n : Nat)) H Q := by
  rcases Nat.lt_or_ge 1 n with lt | ge
  · refine .inr ⟨r, n, [.ref q], rfl, rfl, .of h, (fun z => nomatch z), by omega, by omega, by show 1 ≤ 1000; decide, fun p hp => ?_⟩
    rw [List.flatten_replicate_singleton, Int.toNat_natCast]
    exact f p _ ((Same.refl H).new hp) upd_same
  · obtain rfl : n = 1 := by omega
    exact .inl ⟨r, _, rfl, rfl, .of h, f r H (Same.refl H) h⟩
end
theorem shaped_two {rs : List (List Nat)} {ts : List (List Str)} (h : AscR ts) : SeqAt.shaped (.list [datLI rs, datLS ts]) = true := by
  have h1 := shaped_LI rs
  have h2 := shaped_LS h
  have d1 : (datLI rs).depth ≤ PySem.W.Datum.depth (List (List Int)) := by rw [datLI_is]; exact PySem.W.Datum.depth_le _
  have d2 : (datLS ts).depth ≤ PySem.W.Datum.depth (List (List Str)) := PySem.W.Datum.depth_le (α := List (List Str)) ts
  unfold SeqAt.shaped at h1 h2 ⊢
  obtain ⟨a1, _⟩ := Bool.and_eq_true_iff.mp h1
  obtain ⟨a2, _⟩ := Bool.and_eq_true_iff.mp h2
  rw [PyData.canLay0, PyData.canLayAll0, PyData.canLayAll0, PyData.canLayAll0, a1, a2]
  refine Bool.and_eq_true_iff.mpr ⟨rfl, decide_eq_true ?_⟩
  simp only [PyData.depth, PyData.depthAll]
  have e1 : PySem.W.Datum.depth (List (List Int)) ≤ 10 := by decide
  have e2 : PySem.W.Datum.depth (List (List Str)) ≤ 10 := by decide
  omega
theorem eqv_two {rs rs2 : List (List Nat)} {ts ts2 : List (List Str)} : PyData.eqv (.list [datLI rs2, datLS ts2]) (.list [datLI rs, datLS ts]) = decide (rs2 = rs ∧ ts2 = ts) := by
  simp only [PyData.eqv, PyData.eqvAll]
  rw [eqv_LI, eqv_LS, Bool.and_true, ← Bool.decide_and]


end My
namespace My
open PySem PySem.Spec PyProof.Rows L2 TL
set_option pp.maxSteps 3000
set_option pp.deepTerms false
/-! ### the law, one dice -/
def sp__law_right (_ : PySem.W.Frag) : Sp := fun vs H Q _ => ∃ d : Addr, vs = [.ref d] ∧ IsDice H d ∧ ∀ H', Ext d H H' → IsDice H' d → Q (.bl true) H'
/-- a room stands while the dice is rolled -/
theorem IsRm.ext {K : PySem.W.Frag} {C : Addr} {H H' : Hp} {d : Addr} {v : V} {rs : List (List Nat)} {ts : List (List Str)} (h : IsRm K C H v rs ts) (hd : IsDice H d) (x : Ext d H H') : IsRm K C H' v rs ts := by
  obtain ⟨n1, n2, n3, hn⟩ := hd
  have tup : ∀ {b ys}, H b = some (.tup ys) → H' b = some (.tup ys) := fun {b ys} h => x b _ (fun e => by rw [e, hn] at h; cases h) h
  have ins : ∀ {b C dx fs}, H b = some (.ins C dx fs) → H' b = some (.ins C dx fs) := fun {b C dx fs} h => x b _ (fun e => by rw [e, hn] at h; cases h) h
  obtain ⟨⟨a, dx, p1, p2, rw, ab, xs1, xs2, ps, rfl, h0, h1, v1, h2, v2, h3, lps, at'⟩, ord, tru⟩ := h
  refine ⟨⟨a, dx, p1, p2, rw, ab, xs1, xs2, ps, rfl, ins h0, tup h1, ⟨v1.1, fun i y e => ?_⟩, tup h2, ⟨v2.1, fun i y e => ?_⟩, tup h3, lps, fun i p a b e1 e2 e3 => tup (at' i p a b e1 e2 e3)⟩, ord, tru⟩
  · obtain ⟨r, hr, hv⟩ := v1.2 i y e
    rw [List.getElem?_map] at hr
    obtain ⟨row, er, rfl⟩ := Option.map_eq_some_iff.mp hr
    obtain ⟨q, rfl, hq, l⟩ := hv
    exact ⟨some row, by rw [List.getElem?_map, er]; rfl, q, rfl, tup hq, l⟩
  · obtain ⟨r, hr, hv⟩ := v2.2 i y e
    rw [List.getElem?_map] at hr
    obtain ⟨row, er, rfl⟩ := Option.map_eq_some_iff.mp hr
    obtain ⟨q, rfl, hq, l⟩ := hv
    exact ⟨some row, by rw [List.getElem?_map, er]; rfl, q, rfl, tup hq, l⟩
section
variable {P : Program} {w : World} {K : PySem.W.Frag} {mg : Str → Option Value} {base : Heap} {C_Room : Addr}
theorem ok__law_right (T : Txt K mg C_Room) (c__law_room : Cal P w K mg base "_law_room" 3 ["_law_dice_here", "_law_atoms"] (sp__law_room K)) (c__law_pick : Cal P w K mg base "_law_pick" 2 ["_law_dice_here", "_law_items"] (sp__law_pick K)) (c__law_bent : Cal P w K mg base "_law_bent" 3 ["_law_dice_here", "_law_room_here"] (sp__law_bent K)) (c__law_made_room : Cal P w K mg base "_law_made_room" 6 ["_law_room_here"] (sp__law_made_room K C_Room)) (c__law_is_made : Cal P w K mg base "_law_is_made" 6 ["_law_reach", "_law_truths"] (sp__law_is_made K)) (c__law_is_room : Cal P w K mg base "_law_is_room" 1 ["_law_reach", "_law_truths"] (sp__law_is_room K)) (c__law_told_right : Cal P w K mg base "_law_told_right" 7 ["_law_room_here"] (sp__law_told_right K)) (p_Room_reach : PrpC P w K mg base C_Room "reach" 1 ["self"] (getSp C_Room "_reach")) (p_Room_truths : PrpC P w K mg base C_Room "truths" 1 ["self"] (getSp C_Room "_truths")) (i_Room___init__ : MakC P w K mg base C_Room 4 ["self", "reach", "truths"] (sp_Room___init__ K C_Room)) (m_Room___eq__ : MetC P w K mg base C_Room "__eq__" 1 ["self", "other"] (sp_Room___eq__ K C_Room)) (m_Room___len__ : MetC P w K mg base C_Room "__len__" 1 ["self"] (sp_Room___len__ K C_Room)) {f : Addr} {fd : FuncData} (F : Fun K "_law_right" "_law_right" s__law_right f fd) : FnOkG P w K mg base CX0 8 f fd ["_law_dice_here"] (sp__law_right K) := by
  have nd := sc__law_right.nd
  refine F.okG sc__law_right (fun vs H Q E h => ?_) (fun cdv A outer s H vs Q E hr hG h => ?_)
  · obtain ⟨d, rfl, _⟩ := h
    rfl
  · obtain ⟨d, rfl, hd, q⟩ := h
    refine ⟨_, (pss_cons (ps_set (i := 1) nd rfl (.inl rfl) (pe_callC c__law_room (hr.mono (by first | decide | omega)) hG rfl (pa_cons (pv 0) (pa_cons (pe_lst (pa_cons pe_str (pa_cons pe_str (pa_cons pe_str pa_nil)))) pa_nil))))
      (pss_cons (ps_if (PW.pt (pw_or (pt_not (pt_val (pe_callC c__law_is_room (hr.mono (by first | decide | omega)) hG rfl (pa_cons (pe_dget (by first | exact Nat.lt_of_le_of_lt (Nat.add_le_add_left (by decide : 1 ≤ 64) _) hr.units | exact Nat.lt_of_le_of_lt (Nat.add_le_add_left (by decide : 4 ≤ 64) _) hr.units | exact Nat.lt_of_le_of_lt (Nat.add_le_add_left (by decide : 7 ≤ 64) _) hr.units) (pv 1) pe_str (fun _ _ => rfl)) (pa_cons (pe_dget (by first | exact Nat.lt_of_le_of_lt (Nat.add_le_add_left (by decide : 1 ≤ 64) _) hr.units | exact Nat.lt_of_le_of_lt (Nat.add_le_add_left (by decide : 4 ≤ 64) _) hr.units | exact Nat.lt_of_le_of_lt (Nat.add_le_add_left (by decide : 7 ≤ 64) _) hr.units) (pv 1) pe_str (fun _ _ => rfl)) pa_nil))))) (pw_or1 (pt_not (pt_val (pe_callC c__law_told_right (hr.mono (by first | decide | omega)) hG rfl (pa_cons (pv 1) pa_nil))))))) (pss_one (ps_ret pe_bl)) pss_nil)
      (pss_cons (ps_for PassesOwn.never rfl (pi_range1 (by rfl) T.b_range (pa_cons pe_int pa_nil)) (pg_name (i := 2) nd rfl (.inl rfl)) (pss_cons (ps_asg (pe_callC c__law_bent (hr.mono (by first | decide | omega)) hG rfl (pa_cons (pv 0) (pa_cons (pv 1) pa_nil))) (pg_lst (by rfl) (pgs_cons (pg_name (i := 3) nd rfl (.inl rfl)) (pgs_cons (pg_name (i := 4) nd rfl (.inl rfl)) pgs_nil))))
      (pss_cons (ps_set (i := 5) nd rfl (.inl rfl) (pe_tup (pa_cons (pe_callTy call_tuple_of (by rfl) T.b_tuple (by decide +kernel) (pa_cons (pe_lcD (own := [("_law_row", 11)]) (by rfl) nd (pi_list (pv 3)) (blkOk_by (own := [("_law_row", 11)]) (N := ["_law_dice_here", "_law_room_here", "_law_turn", "_law_reach", "_law_truths", "_law_told", "_law_made", "_law_other", "_law_odd", "_law_bad", "_law_same", "_law_row"]) (sc := (defScope s__law_right)) (by decide +kernel)) (fun _ _ _ _ _ => pg_name (i := 11) nd rfl (Or.inl rfl)) (fun _ _ _ _ _ => pts_nil) (fun _ _ _ _ _ => (pe_callTy call_tuple_of (by rfl) T.b_tuple (by decide +kernel) (pa_cons (pv 11) pa_nil)))) pa_nil)) (pa_cons (pe_callTy call_tuple_of (by rfl) T.b_tuple (by decide +kernel) (pa_cons (pe_lcD (own := [("_law_row", 11)]) (by rfl) nd (pi_list (pv 4)) (blkOk_by (own := [("_law_row", 11)]) (N := ["_law_dice_here", "_law_room_here", "_law_turn", "_law_reach", "_law_truths", "_law_told", "_law_made", "_law_other", "_law_odd", "_law_bad", "_law_same", "_law_row"]) (sc := (defScope s__law_right)) (by decide +kernel)) (fun _ _ _ _ _ => pg_name (i := 11) nd rfl (Or.inl rfl)) (fun _ _ _ _ _ => pts_nil) (fun _ _ _ _ _ => (pe_callTy call_tuple_of (by rfl) T.b_tuple (by decide +kernel) (pa_cons (pv 11) pa_nil)))) pa_nil)) pa_nil))))
      (pss_one (ps_if (pt_cmpR op_ne (pe_callC c__law_is_made (hr.mono (by first | decide | omega)) hG rfl (pa_cons (pe_ix ix_tup (pv 5) pe_int (fun _ _ => rfl)) (pa_cons (pe_ix ix_tup (pv 5) pe_int (fun _ _ => rfl)) pa_nil))) (pe_callC c__law_is_room (hr.mono (by first | decide | omega)) hG rfl (pa_cons (pv 3) (pa_cons (pv 4) pa_nil))) (nomark _)) (pss_one (ps_ret pe_bl)) pss_nil)))))
      (pss_cons (ps_par (i := 6) (j := 7) (by rfl) nd rfl rfl (by decide) rfl rfl (pa_cons (pe_callC c__law_made_room (hr.mono (by first | decide | omega)) hG rfl (pa_cons (pv 1) pa_nil)) (pa_cons (pe_callC c__law_room (hr.mono (by first | decide | omega)) hG rfl (pa_cons (pv 0) (pa_cons (pe_lst (pa_cons pe_str (pa_cons pe_str pa_nil))) pa_nil))) pa_nil)) (by rfl))
      (pss_cons (ps_set (i := 8) nd rfl (.inl rfl) (pe_lst (pa_cons pe_non (pa_cons pe_int (pa_cons (pe_tup pa_nil) (pa_cons (pe_lst pa_nil) (pa_cons pe_dnewK (pa_cons pe_str (pa_cons (pe_callTy call_list_of (by rfl) T.b_list (by decide +kernel) (pa_cons (pe_propC p_Room_reach T.k_Room (hr.mono (by first | decide | omega)) (pv 6)) pa_nil)) (pa_cons (pe_tup (pa_cons pe_int pa_nil)) (pa_cons (pe_tup (pa_cons (pe_tup (pa_cons pe_bl pa_nil)) pa_nil)) (pa_cons (pe_tup (pa_cons (pe_tup (pa_cons pe_str pa_nil)) pa_nil)) (pa_cons (pe_tup (pa_cons (pe_lst (pa_cons pe_int pa_nil)) pa_nil)) pa_nil)))))))))))))
      (pss_cons (ps_set (i := 8) nd rfl (.inl rfl) (pe_callC c__law_pick (hr.mono (by first | decide | omega)) hG rfl (pa_cons (pv 0) (pa_cons (pv 8) pa_nil))))
      (pss_cons (ps_set (i := 9) nd rfl (.inl rfl) (pe_callC c__law_pick (hr.mono (by first | decide | omega)) hG rfl (pa_cons (pv 0) (pa_cons (pe_lst (pa_cons pe_non (pa_cons pe_int (pa_cons (pe_tup pa_nil) (pa_cons (pe_lst pa_nil) (pa_cons pe_str (pa_cons (pe_callTy call_list_of (by rfl) T.b_list (by decide +kernel) (pa_cons (pe_propC p_Room_truths T.k_Room (hr.mono (by first | decide | omega)) (pv 6)) pa_nil)) (pa_cons (pe_tup (pa_cons pe_int pa_nil)) (pa_cons (pe_tup (pa_cons (pe_lst (pa_cons pe_str pa_nil)) pa_nil)) (pa_cons (pe_op op_repA (pe_tup (pa_cons (pe_tup (pa_cons pe_str pa_nil)) pa_nil)) (pe_callB (call_lenO m_Room___len__ (hr.mono (by first | decide | omega))) (by rfl) T.b_len (by decide +kernel) (pa_cons (pv 6) pa_nil))) (pa_cons (pv 6) pa_nil))))))))))) pa_nil))))
      (pss_cons (ps_if (PW.pt (pw_or (pt_val (pe_callC c__law_is_made (hr.mono (by first | decide | omega)) hG rfl (pa_cons (pv 8) (pa_cons (pe_propC p_Room_truths T.k_Room (hr.mono (by first | decide | omega)) (pv 6)) pa_nil)))) (pw_or1 (pt_val (pe_callC c__law_is_made (hr.mono (by first | decide | omega)) hG rfl (pa_cons (pe_propC p_Room_reach T.k_Room (hr.mono (by first | decide | omega)) (pv 6)) (pa_cons (pv 9) pa_nil))))))) (pss_one (ps_ret pe_bl)) pss_nil)
      (pss_cons (ps_set (i := 10) nd rfl (.inl rfl) (pe_cmpR (op_eqD hr.units) (pe_lst (pa_cons (pe_dget (by first | exact Nat.lt_of_le_of_lt (Nat.add_le_add_left (by decide : 1 ≤ 64) _) hr.units | exact Nat.lt_of_le_of_lt (Nat.add_le_add_left (by decide : 4 ≤ 64) _) hr.units | exact Nat.lt_of_le_of_lt (Nat.add_le_add_left (by decide : 7 ≤ 64) _) hr.units) (pv 7) pe_str (fun _ _ => rfl)) (pa_cons (pe_dget (by first | exact Nat.lt_of_le_of_lt (Nat.add_le_add_left (by decide : 1 ≤ 64) _) hr.units | exact Nat.lt_of_le_of_lt (Nat.add_le_add_left (by decide : 4 ≤ 64) _) hr.units | exact Nat.lt_of_le_of_lt (Nat.add_le_add_left (by decide : 7 ≤ 64) _) hr.units) (pv 7) pe_str (fun _ _ => rfl)) pa_nil))) (pe_lst (pa_cons (pe_dget (by first | exact Nat.lt_of_le_of_lt (Nat.add_le_add_left (by decide : 1 ≤ 64) _) hr.units | exact Nat.lt_of_le_of_lt (Nat.add_le_add_left (by decide : 4 ≤ 64) _) hr.units | exact Nat.lt_of_le_of_lt (Nat.add_le_add_left (by decide : 7 ≤ 64) _) hr.units) (pv 1) pe_str (fun _ _ => rfl)) (pa_cons (pe_dget (by first | exact Nat.lt_of_le_of_lt (Nat.add_le_add_left (by decide : 1 ≤ 64) _) hr.units | exact Nat.lt_of_le_of_lt (Nat.add_le_add_left (by decide : 4 ≤ 64) _) hr.units | exact Nat.lt_of_le_of_lt (Nat.add_le_add_left (by decide : 7 ≤ 64) _) hr.units) (pv 1) pe_str (fun _ _ => rfl)) pa_nil))) (nomark _)))
      (pss_one (ps_ret (pe_and (pe_cmpR op_eq (pe_cmpR (op_eqC m_Room___eq__ (hr.mono (by first | decide | omega)) T.x_Room.nfirst) (pv 6) (pe_callC c__law_made_room (hr.mono (by first | decide | omega)) hG rfl (pa_cons (pv 7) pa_nil)) (nomark _)) (pv 10) (nomark _)) (pe_and (pe_cmpR (op_neX m_Room___eq__ (hr.mono (by first | decide | omega)) T.x_Room.ne T.x_Room.under) (pv 6) (pe_propC p_Room_reach T.k_Room (hr.mono (by first | decide | omega)) (pv 6)) (nomark _)) (pe_one (pe_cmpR (op_eqX m_Room___eq__ (hr.mono (by first | decide | omega))) (pv 6) (pe_makeC i_Room___init__ (hr.mono (by first | decide | omega)) rfl T.c_Room (pa_cons (pe_propC p_Room_reach T.k_Room (hr.mono (by first | decide | omega)) (pv 6)) (pa_cons (pe_propC p_Room_truths T.k_Room (hr.mono (by first | decide | omega)) (pv 6)) pa_nil))) (nomark _)))))))))))))))), ?_⟩
    obtain ⟨od, hod⟩ := hd.some
    have wABC : ∀ x ∈ abc, isW (.str x) = true := by decide
    refine ⟨.ref d, rfl, lt_line (by show 3 ≤ 1000000; decide), fun l hl => ?_⟩
    refine ⟨d, l, abc, rfl, hd.new hl, upd_same, (fun e => by rw [e, hod] at hl; cases hl), by decide, by decide, wABC, fun a rs ts H2 x2 d2 rd ord tru l5 sub => asg_go2 ?_⟩
    dsimp only [List.set]
    have x2 : Ext d H H2 := ((Ext.refl H).new hl).trans x2
    obtain ⟨p, q', ha, g1, g2, np, nq, na⟩ := rd.ex
    have rl : ∀ r ∈ rs, r.length ≤ 5 := fun r m => by
      have z := ord.2.1 r m
      have := List.Nodup.length_le_of_subset (z.1.imp fun a => Nat.ne_of_lt a) (fun o m => List.mem_range.mpr (z.2 o m))
      rw [List.length_range] at this
      omega
    have tl : ∀ t ∈ ts, t.length ≤ 3 := fun t m => by
      have := List.Nodup.length_le_of_subset ((tru.2.1 t m).1.imp fun {a b} h => ltS_ne h) (sub t m)
      exact Nat.le_trans this (by decide)
    refine ⟨.ref a, rfl, a, .ref p, rfl, get_reach ha, .ref a, rfl, a, .ref q', rfl, get_truths ha, p, q', rs, ts, _, _, rfl, g1, g2, by omega, by have := tru.1; omega, fun r m => by have := rl r m; omega, fun t m => ⟨by have := tl t m; omega, (tru.2.1 t m).2⟩, fun b H3 hb s3 => ⟨b, rfl, ?_⟩⟩
    obtain rfl : b = true := hb.mpr ⟨ord, tru⟩
    refine iteF ?_
    refine ⟨.ref a, rfl, a, rs, ts, _, rfl, rd.same s3, ord, tru, l5, fun t m => by have := tl t m; omega, fun H4 s4 => ⟨true, rfl, iteF (nx_go ?_)⟩⟩
    have s34 := s3.trans s4
    have d4 := d2.same s34
    have rd4 := rd.same s34
    have x4 : Ext d H H4 := x2.trans (Ext.same s34)
    refine ⟨6, rfl, by decide, by decide, ?_⟩
    refine for_range (lo := 0) (n := 6) (fun _ σ' H' => (∃ s2 s3 s4 s5 s6 s7 s8 s9 s10 s11, σ' = [some (.ref d), some (.ref a), s2, s3, s4, s5, s6, s7, s8, s9, s10, s11]) ∧ IsDice H' d ∧ RoomD H' [d] a rs ts ∧ Ext d H H') ⟨⟨_, _, _, _, _, _, _, _, _, _, rfl⟩, d4, rd4, x4⟩ (fun i σ' H5 hi hP => ?_) (fun σ' H5 hP => ?_)
    · obtain ⟨⟨u2, u3, u4, u5, u6, u7, u8, u9, u10, u11, rfl⟩, d5, rd5, x5⟩ := hP
      show tSeq _ _ _ _ _
      dsimp only [List.set]
      refine ⟨.ref d, rfl, .ref a, rfl, d, a, rs, ts, rfl, d5, rd5, ord.1.1, l5, tru.1, fun r m => ⟨?_, rl r m, fun n hn => by have := (ord.2.1 r m).2 n hn; omega⟩, fun t m => ⟨tl t m, sub t m⟩, fun lb pb qb rs2 ts2 H6 x6 d6 hlb b1 b2 bn nlb npb nqb => ?_⟩
      · intro e
        obtain ⟨w, hw⟩ := List.mem_iff_getElem?.mp m
        have z := (ord.2.2 w r hw).1
        rw [e] at z
        cases z
      refine ⟨lb, _, rfl, SqL.of hlb, rfl, _, _, rfl, asg_go2 ⟨_, _, rfl, asg_go2 ⟨rfl, ?_⟩⟩⟩
      dsimp only [List.set]
      have rd6 := rd5.ext x6
      have x7 := x5.trans x6
      obtain ⟨xs, hxs, lxs, atx⟩ := b1.at'
      obtain ⟨zs, hzs, lzs, atz⟩ := b2.at'
      have lx : xs.length = rs2.length := by rw [lxs]; unfold WI; rw [List.length_map]
      have lz : zs.length = ts2.length := by rw [lzs]; unfold WS; rw [List.length_map]
      have bl1 := bn.l1
      have bl2 := bn.l2
      refine ⟨.ref pb, rfl, pb, rfl, ⟨_, SqL.of hxs⟩, fun D hD => lc_list (xs := xs) (fun i H' => (∃ qs : List Addr, H' D = some (.lst (qs.map V.ref)) ∧ qs.length = i ∧ ∀ (j : Nat) (qd : Addr) (r : List Nat), qs[j]? = some qd → rs2[j]? = some r → H' qd = some (.tup (VI r))) ∧ Same H6 H') ⟨⟨[], upd_same, rfl, fun j qd r e => nomatch e⟩, (Same.refl H6).mut hD⟩ (fun i H' _ hP => SqL.of (hP.2 _ _ hxs)) (fun i y H' hy hP => ?_) (fun H7 hP => ?_)⟩
      · obtain ⟨⟨qs, hD1, lq, atq⟩, s1⟩ := hP
        have li := lt_of_get hy
        have er := List.getElem?_eq_getElem (show i < rs2.length by omega)
        generalize rs2[i]'(show i < rs2.length by omega) = r at er
        obtain ⟨q0, e0, h0, _⟩ := atx i (VI r) (by unfold WI; rw [List.getElem?_map, er]; rfl)
        rw [hy] at e0
        obtain rfl := Option.some.inj e0
        refine ⟨rfl, tyes ?_⟩
        refine ⟨.ref q0, rfl, q0, _, rfl, .inl ⟨SqL.of (s1 _ _ h0), fun t ht => ?_⟩⟩
        have nD : D ≠ t := ne_of_none hD1 ht
        refine ⟨_, (upd_ne nD).trans hD1, lt_line' (by rw [List.length_map]; omega), ⟨qs ++ [t], by rw [upd_same, List.map_append]; rfl, by rw [List.length_append, lq]; rfl, fun j qd r2 e1 e2 => ?_⟩, (s1.new ht).mut hD⟩
        rcases Nat.lt_or_ge j qs.length with lt | ge
        · rw [List.getElem?_append_left lt] at e1
          have z := atq j qd r2 e1 e2
          rw [upd_ne (fun e => by rw [e, hD1] at z; cases z), upd_ne (ne_of_none z ht)]
          exact z
        · have lj := lt_of_get e1
          rw [List.length_append, List.length_singleton] at lj
          have ej : j = qs.length := by omega
          subst ej
          rw [List.getElem?_concat_length] at e1
          cases e1
          rw [lq, er] at e2
          cases e2
          exact (upd_ne nD.symm).trans upd_same
      obtain ⟨⟨qs, hD1, lq, atq⟩, s1⟩ := hP
      refine ⟨D, _, rfl, .inl ⟨SqL.of hD1, fun t1 ht1 => ?_⟩⟩
      have s2 := s1.new (o := .tup (qs.map V.ref)) ht1
      have hT1 : upd H7 t1 (.tup (qs.map V.ref)) t1 = some (.tup (qs.map V.ref)) := upd_same
      have atq2 : ∀ (j : Nat) (qd : Addr) (r : List Nat), qs[j]? = some qd → rs2[j]? = some r → upd H7 t1 (.tup (qs.map V.ref)) qd = some (.tup (VI r)) := fun j qd r e1 e2 => (upd_ne (ne_of_none (atq j qd r e1 e2) ht1)).trans (atq j qd r e1 e2)
      generalize upd H7 t1 (.tup (qs.map V.ref)) = G at s2 hT1 atq2 ⊢
      refine ⟨.ref qb, rfl, qb, rfl, ⟨_, SqL.of (s2 _ _ hzs)⟩, fun D hD => lc_list (xs := zs) (fun i H' => (∃ qs : List Addr, H' D = some (.lst (qs.map V.ref)) ∧ qs.length = i ∧ ∀ (j : Nat) (qd : Addr) (r : List Str), qs[j]? = some qd → ts2[j]? = some r → H' qd = some (.tup (r.map V.str))) ∧ Same G H') ⟨⟨[], upd_same, rfl, fun j qd r e => nomatch e⟩, (Same.refl G).mut hD⟩ (fun i H' _ hP => SqL.of (hP.2 _ _ (s2 _ _ hzs))) (fun i y H' hy hP => ?_) (fun H8 hP => ?_)⟩
      · obtain ⟨⟨qs, hD1, lq, atq⟩, s1⟩ := hP
        have li := lt_of_get hy
        have er := List.getElem?_eq_getElem (show i < ts2.length by omega)
        generalize ts2[i]'(show i < ts2.length by omega) = r at er
        obtain ⟨q0, e0, h0, _⟩ := atz i (r.map V.str) (by unfold WS; rw [List.getElem?_map, er]; rfl)
        rw [hy] at e0
        obtain rfl := Option.some.inj e0
        refine ⟨rfl, tyes ?_⟩
        refine ⟨.ref q0, rfl, q0, _, rfl, .inl ⟨SqL.of (s1 _ _ (s2 _ _ h0)), fun t ht => ?_⟩⟩
        have nD : D ≠ t := ne_of_none hD1 ht
        refine ⟨_, (upd_ne nD).trans hD1, lt_line' (by rw [List.length_map]; omega), ⟨qs ++ [t], by rw [upd_same, List.map_append]; rfl, by rw [List.length_append, lq]; rfl, fun j qd r2 e1 e2 => ?_⟩, (s1.new ht).mut hD⟩
        rcases Nat.lt_or_ge j qs.length with lt | ge
        · rw [List.getElem?_append_left lt] at e1
          have z := atq j qd r2 e1 e2
          rw [upd_ne (fun e => by rw [e, hD1] at z; cases z), upd_ne (ne_of_none z ht)]
          exact z
        · have lj := lt_of_get e1
          rw [List.length_append, List.length_singleton] at lj
          have ej : j = qs.length := by omega
          subst ej
          rw [List.getElem?_concat_length] at e1
          cases e1
          rw [lq, er] at e2
          cases e2
          exact (upd_ne nD.symm).trans upd_same
      obtain ⟨⟨qs2, hD2, lq2, atq3⟩, s3'⟩ := hP
      refine ⟨D, _, rfl, .inl ⟨SqL.of hD2, fun t2 ht2 => ?_⟩⟩
      have s34 := s3'.new (o := .tup (qs2.map V.ref)) ht2
      have s5 := s2.trans s34
      have hT2 : upd H8 t2 (.tup (qs2.map V.ref)) t2 = some (.tup (qs2.map V.ref)) := upd_same
      have hT1b := s34 _ _ hT1
      have atq4 : ∀ (j : Nat) (qd : Addr) (r : List Str), qs2[j]? = some qd → ts2[j]? = some r → upd H8 t2 (.tup (qs2.map V.ref)) qd = some (.tup (r.map V.str)) := fun j qd r e1 e2 => (upd_ne (ne_of_none (atq3 j qd r e1 e2) ht2)).trans (atq3 j qd r e1 e2)
      have atq5 : ∀ (j : Nat) (qd : Addr) (r : List Nat), qs[j]? = some qd → rs2[j]? = some r → upd H8 t2 (.tup (qs2.map V.ref)) qd = some (.tup (VI r)) := fun j qd r e1 e2 => s34 _ _ (atq2 j qd r e1 e2)
      generalize upd H8 t2 (.tup (qs2.map V.ref)) = G3 at s34 s5 hT2 hT1b atq4 atq5 ⊢
      have rv : RowsV K G3 (qs.map V.ref) (rs2.map some) := ⟨by rw [List.length_map, List.length_map]; omega, fun i y e => by
        rw [List.getElem?_map] at e
        obtain ⟨qd, eq, rfl⟩ := Option.map_eq_some_iff.mp e
        have er := List.getElem?_eq_getElem (show i < rs2.length by have := lt_of_get eq; omega)
        have z := bn.r _ (List.mem_of_getElem? er)
        exact ⟨some _, by rw [List.getElem?_map, er]; rfl, qd, rfl, atq5 i qd _ eq er, by omega, fun n hn => by have := z.2 n hn; omega⟩⟩
      have sv : RowsS K G3 (qs2.map V.ref) (ts2.map some) := ⟨by rw [List.length_map, List.length_map]; omega, fun i y e => by
        rw [List.getElem?_map] at e
        obtain ⟨qd, eq, rfl⟩ := Option.map_eq_some_iff.mp e
        have er := List.getElem?_eq_getElem (show i < ts2.length by have := lt_of_get eq; omega)
        have z := bn.t _ (List.mem_of_getElem? er)
        exact ⟨some _, by rw [List.getElem?_map, er]; rfl, qd, rfl, atq4 i qd _ eq er, by omega, fun x mx => ⟨by have := (isW_ascii (wABC x (z.2 x mx))).1; omega, (isW_ascii (wABC x (z.2 x mx))).2⟩⟩⟩
      refine ⟨lt_line (by show 2 ≤ 1000000; decide), fun tt htt => asg_go2 ?_⟩
      dsimp only [List.set]
      have s6 := s5.new (o := .tup [.ref t1, .ref t2]) htt
      have s6b := (Same.refl G3).new (o := .tup [.ref t1, .ref t2]) htt
      have htt2 : upd G3 tt (.tup [.ref t1, .ref t2]) tt = some (.tup [.ref t1, .ref t2]) := upd_same
      generalize upd G3 tt (.tup [.ref t1, .ref t2]) = G4 at s6 s6b htt2 ⊢
      refine ⟨.ref tt, rfl, tt, _, 0, .ref t1, rfl, rfl, .of htt2, atI_nat (j := 0) rfl, .ref tt, rfl, tt, _, 1, .ref t2, rfl, rfl, .of htt2, atI_nat (j := 1) rfl, .ref t1, .ref t2, some (rs2.map some), some (ts2.map some), rfl, ⟨t1, _, rfl, s6b _ _ hT1b, rv.same s6b, by rw [List.length_map]; omega⟩, ⟨t2, _, rfl, s6b _ _ hT2, sv.same s6b, by rw [List.length_map]; omega⟩, fun b H9 hb s9 => ?_⟩
      have s10 := s6.trans s9
      refine ⟨.ref pb, rfl, .ref qb, rfl, pb, qb, rs2, ts2, _, _, rfl, b1.same s10, b2.same s10, by omega, by omega, fun r m => by have := (bn.r r m).1; omega, fun t m => ⟨by have := (bn.t t m).1; omega, fun x mx => wABC x ((bn.t t m).2 x mx)⟩, fun c H10 hc s11 => ⟨rfl, _, rfl, ?_⟩⟩
      have ebc : b = c := by
        have z : b = true ↔ c = true := hb.trans (Iff.trans ⟨fun ⟨r3, t3, e1, e2, o3, u3⟩ => by
          have f1 : rs2 = r3 := (List.map_inj_right (fun _ _ z => Option.some.inj z)).mp (Option.some.inj e1)
          have f2 : ts2 = t3 := (List.map_inj_right (fun _ _ z => Option.some.inj z)).mp (Option.some.inj e2)
          rw [f1, f2]
          exact ⟨o3, u3⟩, fun ⟨o3, u3⟩ => ⟨rs2, ts2, rfl, rfl, o3, u3⟩⟩ hc.symm)
        cases b <;> cases c <;> simp_all
      rw [ebc, decide_eq_true rfl]
      have s12 := s10.trans s11
      exact iteF ⟨⟨_, _, _, _, _, _, _, _, _, _, rfl⟩, d6.same s12, rd6.same s12, x7.trans (Ext.same s12)⟩
    · obtain ⟨⟨u2, u3, u4, u5, u6, u7, u8, u9, u10, u11, rfl⟩, d5, rd5, x5⟩ := hP
      dsimp only
      have asc : AscR ts := fun t m x mx => (isW_ascii ((tru.2.1 t m).2 x mx)).2
      refine ⟨.ref a, rfl, a, rs, ts, _, rfl, rd5, ord, tru, l5, fun t m => ⟨by have := tl t m; omega, fun x mx => ⟨by have := (isW_ascii ((tru.2.1 t m).2 x mx)).1; omega, asc t m x mx⟩⟩, fun v H6 s6 rm => ?_⟩
      have d6 := d5.same s6
      have rd6 := rd5.same s6
      have x6 := x5.trans (Ext.same s6)
      refine ⟨.ref d, rfl, lt_line (by show 2 ≤ 1000000; decide), fun l2 hl2 => ?_⟩
      obtain ⟨o6, ho6⟩ := d6.some
      refine ⟨d, l2, ["a", "b"], rfl, d6.new hl2, upd_same, (fun e => by rw [e, ho6] at hl2; cases hl2), by decide, by decide, by decide, fun a2 rs2 ts2 H7 x7 d7 rd7 ord2 tru2 l52 sub2 => ⟨_, _, rfl, ?_⟩⟩
      have x7 : Ext d H6 H7 := ((Ext.refl H6).new hl2).trans x7
      have rd7a := rd6.ext x7
      have x8 := x6.trans x7
      have rm7 := rm.ext d6 x7
      dsimp only [List.set]
      -- data of other kinds
      have dk := d7
      have rmk := rm7
      have xk := Ext.refl (d := d) H7
      obtain ⟨⟨x, dx, p1, p2, rw, ab, xs1, xs2, ps, rfl, hx, hp1, v1, hp2, v2, _⟩, _, _⟩ := id rm7
      have lx1 : xs1.length = rs.length := v1.1.trans (List.length_map _)
      have lx2 : xs2.length = ts.length := v2.1.trans (List.length_map _)
      have fx := hx
      have fp1 := hp1
      have fp2 := hp2
      have ods : OdsV K d H7 [] := OdsV.nil
      have ods := ods.snoc (nt_non.od)
      have ods := ods.snoc ((nt_int (i := 0)).od)
      refine ⟨lt_line (by show 0 ≤ 1000000; decide), fun c1 hc1 => ?_⟩
      have y1 := (Ext.refl (d := d) H7).new (o := .tup []) hc1
      have z1 := (Same.refl H7).new (o := .tup []) hc1
      have nc1 : c1 ≠ d := dk.ne hc1
      have dk := dk.new (o := .tup []) hc1
      have fx := z1 _ _ fx
      have fp1 := z1 _ _ fp1
      have fp2 := z1 _ _ fp2
      have fc1 : upd H7 c1 (.tup []) c1 = some (.tup []) := upd_same
      have rmk := rmk.same z1
      have xk := xk.trans y1
      have ods := ods.ext y1
      generalize upd H7 c1 (.tup []) = K1 at y1 z1 dk fx fp1 fp2 fc1 rmk xk ods ⊢
      have ods := ods.snoc (od_nil fc1 nc1)
      refine ⟨lt_line (by show 0 ≤ 1000000; decide), fun c2 hc2 => ?_⟩
      have y2 := (Ext.refl (d := d) K1).new (o := .lst []) hc2
      have z2 := (Same.refl K1).new (o := .lst []) hc2
      have nc2 : c2 ≠ d := dk.ne hc2
      have dk := dk.new (o := .lst []) hc2
      have fx := z2 _ _ fx
      have fp1 := z2 _ _ fp1
      have fp2 := z2 _ _ fp2
      have fc2 : upd K1 c2 (.lst []) c2 = some (.lst []) := upd_same
      have rmk := rmk.same z2
      have xk := xk.trans y2
      have ods := ods.ext y2
      generalize upd K1 c2 (.lst []) = K2 at y2 z2 dk fx fp1 fp2 fc2 rmk xk ods ⊢
      have ods := ods.snoc ((nt_lst fc2 nc2).od)
      refine fun c3 hc3 => ?_
      have y3 := (Ext.refl (d := d) K2).new (o := .dK []) hc3
      have z3 := (Same.refl K2).new (o := .dK []) hc3
      have nc3 : c3 ≠ d := dk.ne hc3
      have dk := dk.new (o := .dK []) hc3
      have fx := z3 _ _ fx
      have fp1 := z3 _ _ fp1
      have fp2 := z3 _ _ fp2
      have fc3 : upd K2 c3 (.dK []) c3 = some (.dK []) := upd_same
      have rmk := rmk.same z3
      have xk := xk.trans y3
      have ods := ods.ext y3
      generalize upd K2 c3 (.dK []) = K3 at y3 z3 dk fx fp1 fp2 fc3 rmk xk ods ⊢
      have ods := ods.snoc ((nt_dk fc3 nc3).od)
      have ods := ods.snoc ((nt_str (x := "room")).od)
      refine ⟨.ref x, rfl, x, dx, _, rfl, fx, x, dx, _, .ref p1, rfl, fx, rfl, p1, xs1, rfl, .inr (SqT.of fp1), fun c4 hc4 => ?_⟩
      have y4 := (Ext.refl (d := d) K3).new (o := .lst xs1) hc4
      have z4 := (Same.refl K3).new (o := .lst xs1) hc4
      have nc4 : c4 ≠ d := dk.ne hc4
      have dk := dk.new (o := .lst xs1) hc4
      have fx := z4 _ _ fx
      have fp1 := z4 _ _ fp1
      have fp2 := z4 _ _ fp2
      have fc4 : upd K3 c4 (.lst xs1) c4 = some (.lst xs1) := upd_same
      have rmk := rmk.same z4
      have xk := xk.trans y4
      have ods := ods.ext y4
      generalize upd K3 c4 (.lst xs1) = K4 at y4 z4 dk fx fp1 fp2 fc4 rmk xk ods ⊢
      have ods := ods.snoc ((nt_lst fc4 nc4).od)
      refine ⟨lt_line (by show 1 ≤ 1000000; decide), fun c5 hc5 => ?_⟩
      have y5 := (Ext.refl (d := d) K4).new (o := .tup [.int 0]) hc5
      have z5 := (Same.refl K4).new (o := .tup [.int 0]) hc5
      have nc5 : c5 ≠ d := dk.ne hc5
      have dk := dk.new (o := .tup [.int 0]) hc5
      have fx := z5 _ _ fx
      have fp1 := z5 _ _ fp1
      have fp2 := z5 _ _ fp2
      have fc5 : upd K4 c5 (.tup [.int 0]) c5 = some (.tup [.int 0]) := upd_same
      have rmk := rmk.same z5
      have xk := xk.trans y5
      have ods := ods.ext y5
      generalize upd K4 c5 (.tup [.int 0]) = K5 at y5 z5 dk fx fp1 fp2 fc5 rmk xk ods ⊢
      have ods := ods.snoc (od_one fc5 nc5 fun _ e => nt_int.rowV e)
      refine ⟨lt_line (by show 1 ≤ 1000000; decide), fun c6 hc6 => ?_⟩
      have y6 := (Ext.refl (d := d) K5).new (o := .tup [.bl true]) hc6
      have z6 := (Same.refl K5).new (o := .tup [.bl true]) hc6
      have nc6 : c6 ≠ d := dk.ne hc6
      have dk := dk.new (o := .tup [.bl true]) hc6
      have fx := z6 _ _ fx
      have fp1 := z6 _ _ fp1
      have fp2 := z6 _ _ fp2
      have fc6 : upd K5 c6 (.tup [.bl true]) c6 = some (.tup [.bl true]) := upd_same
      have rmk := rmk.same z6
      have xk := xk.trans y6
      have ods := ods.ext y6
      generalize upd K5 c6 (.tup [.bl true]) = K6 at y6 z6 dk fx fp1 fp2 fc6 rmk xk ods ⊢
      refine ⟨lt_line (by show 1 ≤ 1000000; decide), fun c7 hc7 => ?_⟩
      have y7 := (Ext.refl (d := d) K6).new (o := .tup [.ref c6]) hc7
      have z7 := (Same.refl K6).new (o := .tup [.ref c6]) hc7
      have nc7 : c7 ≠ d := dk.ne hc7
      have dk := dk.new (o := .tup [.ref c6]) hc7
      have fx := z7 _ _ fx
      have fp1 := z7 _ _ fp1
      have fp2 := z7 _ _ fp2
      have fc6 := z7 _ _ fc6
      have fc7 : upd K6 c7 (.tup [.ref c6]) c7 = some (.tup [.ref c6]) := upd_same
      have rmk := rmk.same z7
      have xk := xk.trans y7
      have ods := ods.ext y7
      generalize upd K6 c7 (.tup [.ref c6]) = K7 at y7 z7 dk fx fp1 fp2 fc6 fc7 rmk xk ods ⊢
      have ods := ods.snoc (od_one fc7 nc7 (rv_tup fc6 nc6 (fun _ => .inr (.inl ⟨true, rfl⟩)) rfl))
      refine ⟨lt_line (by show 1 ≤ 1000000; decide), fun c8 hc8 => ?_⟩
      have y8 := (Ext.refl (d := d) K7).new (o := .tup [.str "a"]) hc8
      have z8 := (Same.refl K7).new (o := .tup [.str "a"]) hc8
      have nc8 : c8 ≠ d := dk.ne hc8
      have dk := dk.new (o := .tup [.str "a"]) hc8
      have fx := z8 _ _ fx
      have fp1 := z8 _ _ fp1
      have fp2 := z8 _ _ fp2
      have fc8 : upd K7 c8 (.tup [.str "a"]) c8 = some (.tup [.str "a"]) := upd_same
      have rmk := rmk.same z8
      have xk := xk.trans y8
      have ods := ods.ext y8
      generalize upd K7 c8 (.tup [.str "a"]) = K8 at y8 z8 dk fx fp1 fp2 fc8 rmk xk ods ⊢
      refine ⟨lt_line (by show 1 ≤ 1000000; decide), fun c9 hc9 => ?_⟩
      have y9 := (Ext.refl (d := d) K8).new (o := .tup [.ref c8]) hc9
      have z9 := (Same.refl K8).new (o := .tup [.ref c8]) hc9
      have nc9 : c9 ≠ d := dk.ne hc9
      have dk := dk.new (o := .tup [.ref c8]) hc9
      have fx := z9 _ _ fx
      have fp1 := z9 _ _ fp1
      have fp2 := z9 _ _ fp2
      have fc8 := z9 _ _ fc8
      have fc9 : upd K8 c9 (.tup [.ref c8]) c9 = some (.tup [.ref c8]) := upd_same
      have rmk := rmk.same z9
      have xk := xk.trans y9
      have ods := ods.ext y9
      generalize upd K8 c9 (.tup [.ref c8]) = K9 at y9 z9 dk fx fp1 fp2 fc8 fc9 rmk xk ods ⊢
      have ods := ods.snoc (od_one fc9 nc9 (rv_tup fc8 nc8 (fun _ => .inr (.inr (.inl ⟨_, rfl, by decide⟩))) rfl))
      refine ⟨lt_line (by show 1 ≤ 1000000; decide), fun c10 hc10 => ?_⟩
      have y10 := (Ext.refl (d := d) K9).new (o := .lst [.int 0]) hc10
      have z10 := (Same.refl K9).new (o := .lst [.int 0]) hc10
      have nc10 : c10 ≠ d := dk.ne hc10
      have dk := dk.new (o := .lst [.int 0]) hc10
      have fx := z10 _ _ fx
      have fp1 := z10 _ _ fp1
      have fp2 := z10 _ _ fp2
      have fc10 : upd K9 c10 (.lst [.int 0]) c10 = some (.lst [.int 0]) := upd_same
      have rmk := rmk.same z10
      have xk := xk.trans y10
      have ods := ods.ext y10
      generalize upd K9 c10 (.lst [.int 0]) = K10 at y10 z10 dk fx fp1 fp2 fc10 rmk xk ods ⊢
      refine ⟨lt_line (by show 1 ≤ 1000000; decide), fun c11 hc11 => ?_⟩
      have y11 := (Ext.refl (d := d) K10).new (o := .tup [.ref c10]) hc11
      have z11 := (Same.refl K10).new (o := .tup [.ref c10]) hc11
      have nc11 : c11 ≠ d := dk.ne hc11
      have dk := dk.new (o := .tup [.ref c10]) hc11
      have fx := z11 _ _ fx
      have fp1 := z11 _ _ fp1
      have fp2 := z11 _ _ fp2
      have fc10 := z11 _ _ fc10
      have fc11 : upd K10 c11 (.tup [.ref c10]) c11 = some (.tup [.ref c10]) := upd_same
      have rmk := rmk.same z11
      have xk := xk.trans y11
      have ods := ods.ext y11
      generalize upd K10 c11 (.tup [.ref c10]) = K11 at y11 z11 dk fx fp1 fp2 fc10 fc11 rmk xk ods ⊢
      have ods := ods.snoc (od_one fc11 nc11 fun _ e => (nt_lst fc10 nc10).rowV e)
      refine ⟨lt_line (by show 11 ≤ 1000000; decide), fun c12 hc12 => ?_⟩
      have y12 := (Ext.refl (d := d) K11).new (o := .lst [.non, .int 0, .ref c1, .ref c2, .ref c3, .str "room", .ref c4, .ref c5, .ref c7, .ref c9, .ref c11]) hc12
      have z12 := (Same.refl K11).new (o := .lst [.non, .int 0, .ref c1, .ref c2, .ref c3, .str "room", .ref c4, .ref c5, .ref c7, .ref c9, .ref c11]) hc12
      have nc12 : c12 ≠ d := dk.ne hc12
      have dk := dk.new (o := .lst [.non, .int 0, .ref c1, .ref c2, .ref c3, .str "room", .ref c4, .ref c5, .ref c7, .ref c9, .ref c11]) hc12
      have fx := z12 _ _ fx
      have fp1 := z12 _ _ fp1
      have fp2 := z12 _ _ fp2
      have fc12 : upd K11 c12 (.lst [.non, .int 0, .ref c1, .ref c2, .ref c3, .str "room", .ref c4, .ref c5, .ref c7, .ref c9, .ref c11]) c12 = some (.lst [.non, .int 0, .ref c1, .ref c2, .ref c3, .str "room", .ref c4, .ref c5, .ref c7, .ref c9, .ref c11]) := upd_same
      have rmk := rmk.same z12
      have xk := xk.trans y12
      have ods := ods.ext y12
      generalize upd K11 c12 (.lst [.non, .int 0, .ref c1, .ref c2, .ref c3, .str "room", .ref c4, .ref c5, .ref c7, .ref c9, .ref c11]) = K12 at y12 z12 dk fx fp1 fp2 fc12 rmk xk ods ⊢
      refine asg_go2 ?_
      dsimp only [List.set]
      refine ⟨.ref d, rfl, .ref c12, rfl, d, c12, _, rfl, dk, SqL.of fc12, nc12, (fun z => nomatch z), by show 11 < 1000000; decide, fun o8 H8 ho8 e8 d8 => asg_go2 ?_⟩
      dsimp only [List.set]
      have odx : OdV K d H8 o8 := (ods _ ho8).ext e8
      have rmk := rmk.ext dk e8
      have xk := xk.trans e8
      have dk := d8
      have fx := e8 _ _ (fun e => by obtain ⟨_, _, _, hn⟩ := d7; rw [e, hn] at hx; cases hx) fx
      have fp1 := e8 _ _ (fun e => by obtain ⟨_, _, _, hn⟩ := d7; rw [e, hn] at hp1; cases hp1) fp1
      have fp2 := e8 _ _ (fun e => by obtain ⟨_, _, _, hn⟩ := d7; rw [e, hn] at hp2; cases hp2) fp2
      clear ods
      have ods : BdsV K d rs.length H8 [] := BdsV.nil
      have ods := ods.snoc (nt_non.bd)
      have ods := ods.snoc ((nt_int (i := 0)).bd)
      refine ⟨.ref d, rfl, ?_⟩
      refine ⟨lt_line (by show 0 ≤ 1000000; decide), fun b1 hb1 => ?_⟩
      have y13 := (Ext.refl (d := d) H8).new (o := .tup []) hb1
      have z13 := (Same.refl H8).new (o := .tup []) hb1
      have nb1 : b1 ≠ d := dk.ne hb1
      have dk := dk.new (o := .tup []) hb1
      have fx := z13 _ _ fx
      have fp1 := z13 _ _ fp1
      have fp2 := z13 _ _ fp2
      have fb1 : upd H8 b1 (.tup []) b1 = some (.tup []) := upd_same
      have rmk := rmk.same z13
      have xk := xk.trans y13
      have ods := ods.ext y13
      generalize upd H8 b1 (.tup []) = K13 at y13 z13 dk fx fp1 fp2 fb1 rmk xk ods ⊢
      have ods := ods.snoc (bd_nil fb1 nb1 ord.1.1)
      refine ⟨lt_line (by show 0 ≤ 1000000; decide), fun b2 hb2 => ?_⟩
      have y14 := (Ext.refl (d := d) K13).new (o := .lst []) hb2
      have z14 := (Same.refl K13).new (o := .lst []) hb2
      have nb2 : b2 ≠ d := dk.ne hb2
      have dk := dk.new (o := .lst []) hb2
      have fx := z14 _ _ fx
      have fp1 := z14 _ _ fp1
      have fp2 := z14 _ _ fp2
      have fb2 : upd K13 b2 (.lst []) b2 = some (.lst []) := upd_same
      have rmk := rmk.same z14
      have xk := xk.trans y14
      have ods := ods.ext y14
      generalize upd K13 b2 (.lst []) = K14 at y14 z14 dk fx fp1 fp2 fb2 rmk xk ods ⊢
      have ods := ods.snoc ((nt_lst fb2 nb2).bd)
      have ods := ods.snoc ((nt_str (x := "a")).bd)
      refine ⟨.ref x, rfl, x, dx, _, rfl, fx, x, dx, _, .ref p2, rfl, fx, rfl, p2, xs2, rfl, .inr (SqT.of fp2), fun b4 hb4 => ?_⟩
      have y15 := (Ext.refl (d := d) K14).new (o := .lst xs2) hb4
      have z15 := (Same.refl K14).new (o := .lst xs2) hb4
      have nb4 : b4 ≠ d := dk.ne hb4
      have dk := dk.new (o := .lst xs2) hb4
      have fx := z15 _ _ fx
      have fp1 := z15 _ _ fp1
      have fp2 := z15 _ _ fp2
      have fb4 : upd K14 b4 (.lst xs2) b4 = some (.lst xs2) := upd_same
      have rmk := rmk.same z15
      have xk := xk.trans y15
      have ods := ods.ext y15
      generalize upd K14 b4 (.lst xs2) = K15 at y15 z15 dk fx fp1 fp2 fb4 rmk xk ods ⊢
      have ods := ods.snoc ((nt_lst fb4 nb4).bd)
      refine ⟨lt_line (by show 1 ≤ 1000000; decide), fun b5 hb5 => ?_⟩
      have y16 := (Ext.refl (d := d) K15).new (o := .tup [.int 0]) hb5
      have z16 := (Same.refl K15).new (o := .tup [.int 0]) hb5
      have nb5 : b5 ≠ d := dk.ne hb5
      have dk := dk.new (o := .tup [.int 0]) hb5
      have fx := z16 _ _ fx
      have fp1 := z16 _ _ fp1
      have fp2 := z16 _ _ fp2
      have fb5 : upd K15 b5 (.tup [.int 0]) b5 = some (.tup [.int 0]) := upd_same
      have rmk := rmk.same z16
      have xk := xk.trans y16
      have ods := ods.ext y16
      generalize upd K15 b5 (.tup [.int 0]) = K16 at y16 z16 dk fx fp1 fp2 fb5 rmk xk ods ⊢
      have ods := ods.snoc (bd_one fb5 nb5 fun _ e => nt_int.rowS e)
      refine ⟨lt_line (by show 1 ≤ 1000000; decide), fun b6 hb6 => ?_⟩
      have y17 := (Ext.refl (d := d) K16).new (o := .lst [.str "a"]) hb6
      have z17 := (Same.refl K16).new (o := .lst [.str "a"]) hb6
      have nb6 : b6 ≠ d := dk.ne hb6
      have dk := dk.new (o := .lst [.str "a"]) hb6
      have fx := z17 _ _ fx
      have fp1 := z17 _ _ fp1
      have fp2 := z17 _ _ fp2
      have fb6 : upd K16 b6 (.lst [.str "a"]) b6 = some (.lst [.str "a"]) := upd_same
      have rmk := rmk.same z17
      have xk := xk.trans y17
      have ods := ods.ext y17
      generalize upd K16 b6 (.lst [.str "a"]) = K17 at y17 z17 dk fx fp1 fp2 fb6 rmk xk ods ⊢
      refine ⟨lt_line (by show 1 ≤ 1000000; decide), fun b7 hb7 => ?_⟩
      have y18 := (Ext.refl (d := d) K17).new (o := .tup [.ref b6]) hb7
      have z18 := (Same.refl K17).new (o := .tup [.ref b6]) hb7
      have nb7 : b7 ≠ d := dk.ne hb7
      have dk := dk.new (o := .tup [.ref b6]) hb7
      have fx := z18 _ _ fx
      have fp1 := z18 _ _ fp1
      have fp2 := z18 _ _ fp2
      have fb6 := z18 _ _ fb6
      have fb7 : upd K17 b7 (.tup [.ref b6]) b7 = some (.tup [.ref b6]) := upd_same
      have rmk := rmk.same z18
      have xk := xk.trans y18
      have ods := ods.ext y18
      generalize upd K17 b7 (.tup [.ref b6]) = K18 at y18 z18 dk fx fp1 fp2 fb6 fb7 rmk xk ods ⊢
      have ods := ods.snoc (bd_one fb7 nb7 fun _ e => (nt_lst fb6 nb6).rowS e)
      refine ⟨lt_line (by show 1 ≤ 1000000; decide), fun b8 hb8 => ?_⟩
      have y19 := (Ext.refl (d := d) K18).new (o := .tup [.str "A"]) hb8
      have z19 := (Same.refl K18).new (o := .tup [.str "A"]) hb8
      have nb8 : b8 ≠ d := dk.ne hb8
      have dk := dk.new (o := .tup [.str "A"]) hb8
      have fx := z19 _ _ fx
      have fp1 := z19 _ _ fp1
      have fp2 := z19 _ _ fp2
      have fb8 : upd K18 b8 (.tup [.str "A"]) b8 = some (.tup [.str "A"]) := upd_same
      have rmk := rmk.same z19
      have xk := xk.trans y19
      have ods := ods.ext y19
      generalize upd K18 b8 (.tup [.str "A"]) = K19 at y19 z19 dk fx fp1 fp2 fb8 rmk xk ods ⊢
      refine ⟨lt_line (by show 1 ≤ 1000000; decide), fun b9 hb9 => ?_⟩
      have y20 := (Ext.refl (d := d) K19).new (o := .tup [.ref b8]) hb9
      have z20 := (Same.refl K19).new (o := .tup [.ref b8]) hb9
      have nb9 : b9 ≠ d := dk.ne hb9
      have dk := dk.new (o := .tup [.ref b8]) hb9
      have fx := z20 _ _ fx
      have fp1 := z20 _ _ fp1
      have fp2 := z20 _ _ fp2
      have fb8 := z20 _ _ fb8
      have fb9 : upd K19 b9 (.tup [.ref b8]) b9 = some (.tup [.ref b8]) := upd_same
      have rmk := rmk.same z20
      have xk := xk.trans y20
      have ods := ods.ext y20
      generalize upd K19 b9 (.tup [.ref b8]) = K20 at y20 z20 dk fx fp1 fp2 fb8 fb9 rmk xk ods ⊢
      refine ⟨.ref x, rfl, x, dx, _, rfl, fx, .ref x, rs, ts, rfl, rmk, rs.length, rfl, by have := ord.1; omega, ?_⟩
      refine rep_one fb9 ord.1.1 (by have := ord.1; omega) fun b10 K21 z21 fb10 => ?_
      have y21 := Ext.same (d := d) z21
      have fx := z21 _ _ fx
      have fp1 := z21 _ _ fp1
      have fp2 := z21 _ _ fp2
      have fb8 := z21 _ _ fb8
      have dk := dk.same z21
      have nb10 : b10 ≠ d := fun e => by obtain ⟨_, _, _, hn⟩ := dk; rw [e, hn] at fb10; cases fb10
      have rmk := rmk.same z21
      have xk := xk.trans y21
      have ods := ods.ext y21
      have ods := ods.snoc (bd_rep fb10 nb10 fb8 nb8 ord.1.1 (by have := ord.1; omega))
      have ods := ods.snoc ((nt_room T.k_Room T.x_Room dk rmk).bd)
      refine ⟨.ref x, rfl, lt_line (by show 10 ≤ 1000000; decide), fun b12 hb12 => ?_⟩
      have y22 := (Ext.refl (d := d) K21).new (o := .lst [.non, .int 0, .ref b1, .ref b2, .str "a", .ref b4, .ref b5, .ref b7, .ref b10, .ref x]) hb12
      have z22 := (Same.refl K21).new (o := .lst [.non, .int 0, .ref b1, .ref b2, .str "a", .ref b4, .ref b5, .ref b7, .ref b10, .ref x]) hb12
      have nb12 : b12 ≠ d := dk.ne hb12
      have dk := dk.new (o := .lst [.non, .int 0, .ref b1, .ref b2, .str "a", .ref b4, .ref b5, .ref b7, .ref b10, .ref x]) hb12
      have fx := z22 _ _ fx
      have fp1 := z22 _ _ fp1
      have fp2 := z22 _ _ fp2
      have fb12 : upd K21 b12 (.lst [.non, .int 0, .ref b1, .ref b2, .str "a", .ref b4, .ref b5, .ref b7, .ref b10, .ref x]) b12 = some (.lst [.non, .int 0, .ref b1, .ref b2, .str "a", .ref b4, .ref b5, .ref b7, .ref b10, .ref x]) := upd_same
      have rmk := rmk.same z22
      have xk := xk.trans y22
      have ods := ods.ext y22
      generalize upd K21 b12 (.lst [.non, .int 0, .ref b1, .ref b2, .str "a", .ref b4, .ref b5, .ref b7, .ref b10, .ref x]) = K22 at y22 z22 dk fx fp1 fp2 fb12 rmk xk ods ⊢
      refine ⟨d, b12, _, rfl, dk, SqL.of fb12, nb12, (fun z => nomatch z), by show 10 < 1000000; decide, fun o9 H9 ho9 e9 d9 => asg_go2 ?_⟩
      dsimp only [List.set]
      have bdx : BdV K d rs.length H9 o9 := (ods _ ho9).ext e9
      have rmk := rmk.ext dk e9
      have xk := xk.trans e9
      have fx := e9 _ _ (fun e => by obtain ⟨_, _, _, hn⟩ := d7; rw [e, hn] at hx; cases hx) fx
      have fp1 := e9 _ _ (fun e => by obtain ⟨_, _, _, hn⟩ := d7; rw [e, hn] at hp1; cases hp1) fp1
      have fp2 := e9 _ _ (fun e => by obtain ⟨_, _, _, hn⟩ := d7; rw [e, hn] at hp2; cases hp2) fp2
      have dk := d9
      have odx := odx.ext ((((((((((y13.trans y14).trans y15).trans y16).trans y17).trans y18).trans y19).trans y20).trans y21).trans y22).trans e9)
      clear ods
      obtain ⟨⟨x9, dx9, q1, q2, rw9, ab9, ys1, ys2, ps9, ex9, hx9, hq1, w1, hq2, w2, _⟩, _, _⟩ := id rmk
      cases ex9
      rw [fx] at hx9
      cases hx9
      have ly1 : ys1.length = rs.length := w1.1.trans (List.length_map _)
      have ly2 : ys2.length = ts.length := w2.1.trans (List.length_map _)
      obtain ⟨oo, odv, ono⟩ := odx H9 (Ext.refl H9)
      have ltt := tru.1
      refine ⟨o8, rfl, .ref x, rfl, x, dx, _, rfl, fx, x, dx, _, .ref p2, rfl, fx, rfl, o8, .ref p2, oo, some (ts.map some), rfl, odv, ⟨p2, ys2, rfl, hq2, w2, by rw [List.length_map]; omega⟩, fun b G1 hb s1 => ⟨b, rfl, ?_⟩⟩
      obtain rfl : b = false := by
        cases b with
        | false => rfl
        | true => exact absurd (hb.mp rfl) (ono _)
      refine iteF ?_
      obtain ⟨tt, tdv, tno⟩ := bdx G1 (Ext.same s1)
      have rm1 := rmk.same s1
      have fx1 := s1 _ _ fx
      obtain ⟨ov2, _⟩ := (show OrdV K G1 (.ref p1) (some (rs.map some)) ∧ True from ⟨⟨p1, ys1, rfl, s1 _ _ hq1, w1.same s1, by rw [List.length_map]; have := ord.1; omega⟩, trivial⟩)
      refine ⟨.ref x, rfl, x, dx, _, rfl, fx1, x, dx, _, .ref p1, rfl, fx1, rfl, o9, rfl, .ref p1, o9, some (rs.map some), tt, rfl, ov2, tdv, fun b2 G2 hb2 s2 => ⟨b2, rfl, ?_⟩⟩
      obtain rfl : b2 = false := by
        cases b2 with
        | false => rfl
        | true =>
          obtain ⟨r3, t3, e1, e2, o3, u3⟩ := hb2.mp rfl
          have f1 : rs = r3 := (List.map_inj_right (fun _ _ z => Option.some.inj z)).mp (Option.some.inj e1)
          subst f1
          exact absurd rfl (tno rs t3 e2 u3)
      refine iteF (nx_go ?_)
      have s12 := s1.trans s2
      have xk2 : Ext d H7 G2 := xk.trans (Ext.same s12)
      have dk2 := dk.same s12
      have r1 := rd7a.ext xk2
      have r2 := rd7.ext xk2
      obtain ⟨g1, g1', hg1, k1, k1', _, _, _⟩ := r1.ex
      obtain ⟨g2, g2', hg2, k2, k2', _, _, _⟩ := r2.ex
      have asc2 : AscR ts2 := fun t m x mx => (isW_ascii ((tru2.2.1 t m).2 x mx)).2
      refine ⟨.ref a2, rfl, a2, .ref g2, rfl, get_reach hg2, .ref a2, rfl, a2, .ref g2', rfl, get_truths hg2, lt_line (by show 2 ≤ 1000000; decide), fun L1 hL1 => ?_⟩
      have z1 := (Same.refl G2).new (o := .lst [.ref g2, .ref g2']) hL1
      have fL1 : upd G2 L1 (.lst [.ref g2, .ref g2']) L1 = some (.lst [.ref g2, .ref g2']) := upd_same
      generalize upd G2 L1 (.lst [.ref g2, .ref g2']) = G3 at z1 fL1 ⊢
      refine ⟨.ref a, rfl, a, .ref g1, rfl, get_reach (z1 _ _ hg1), .ref a, rfl, a, .ref g1', rfl, get_truths (z1 _ _ hg1), lt_line (by show 2 ≤ 1000000; decide), fun L2 hL2 => ?_⟩
      have z2 := z1.new (o := .lst [.ref g1, .ref g1']) hL2
      have z2' := (Same.refl G3).new (o := .lst [.ref g1, .ref g1']) hL2
      have fL2 : upd G3 L2 (.lst [.ref g1, .ref g1']) L2 = some (.lst [.ref g1, .ref g1']) := upd_same
      generalize upd G3 L2 (.lst [.ref g1, .ref g1']) = G4 at z2 z2' fL2 ⊢
      refine ⟨.list [datLI rs2, datLS ts2], .list [datLI rs, datLS ts], .lst (SqL.of (z2' _ _ fL1)) (.cons (dp_WI (k2.same z2)) (.cons (dp_WS (k2'.same z2)) .nil)), .lst (SqL.of fL2) (.cons (dp_WI (k1.same z2)) (.cons (dp_WS (k1'.same z2)) .nil)), shaped_two asc2, shaped_two asc, asg_go2 ?_⟩
      dsimp only [List.set]
      rw [eqv_two]
      have tl2 : ∀ t ∈ ts2, t.length ≤ 3 := fun t m => by
        have := List.Nodup.length_le_of_subset ((tru2.2.1 t m).1.imp fun {a b} h => ltS_ne h) (sub2 t m)
        exact Nat.le_trans this (by decide)
      refine ⟨.ref x, rfl, .ref a2, rfl, a2, rs2, ts2, _, rfl, r2.same z2, ord2, tru2, l52, fun t m => ⟨by have := tl2 t m; omega, fun y my => ⟨by have := (isW_ascii ((tru2.2.1 t m).2 y my)).1; omega, asc2 t m y my⟩⟩, fun v5 G5 s5 rm5 => ?_⟩
      obtain ⟨⟨y, dy, _, _, _, _, _, _, _, rfl, hy, _⟩, _, _⟩ := id rm5
      have s6 := (s12.trans z2).trans s5
      have rm6 := rmk.same s6
      have fx6 := s6 _ _ fx
      refine ⟨x, dx, _, y, dy, _, rfl, rfl, fx6, hy, .ref x, rs, ts, .ref y, rfl, rm6, .inr ⟨rs2, ts2, rm5, asc, asc2, fun b hb => ?_⟩⟩
      have eb : b = decide (rs2 = rs ∧ ts2 = ts) := by
        rw [Bool.eq_iff_iff, hb, decide_eq_true_iff]
        exact ⟨fun ⟨e1, e2⟩ => ⟨e1.symm, e2.symm⟩, fun ⟨e1, e2⟩ => ⟨e1.symm, e2.symm⟩⟩
      refine ⟨_, rfl, rfl, ?_⟩
      rw [eb, decide_eq_true rfl]
      refine ⟨true, rfl, iteT ?_⟩
      refine ⟨.ref x, rfl, .ref x, rfl, x, dx, _, rfl, fx6, x, dx, _, .ref p1, rfl, fx6, rfl, x, dx, _, .type "tuple", rfl, fx6, .base (.tup (s6 _ _ hq1)), T.x_Room.nf_tuple, .ref x, rs, ts, .ref p1, rfl, rm6, .inl ⟨.type "tuple", .base (.tup (s6 _ _ hq1)), T.x_Room.odd_tuple, false, rfl, ?_⟩⟩
      refine ⟨true, rfl, iteT ?_⟩
      refine ⟨.ref x, rfl, .ref x, rfl, x, dx, _, rfl, fx6, x, dx, _, .ref p1, rfl, fx6, rfl, .ref x, rfl, x, dx, _, rfl, fx6, x, dx, _, .ref p2, rfl, fx6, rfl, fun x' dx' hx' hdx' ne => ?_⟩
      have sm : Same G5 (upd (upd G5 dx' (.own x')) x' (.ins C_Room dx' [])) := ((Same.refl G5).new hdx').new ((upd_ne (Ne.symm ne)).trans hx')
      refine ⟨x', dx', p1, p2, rs, ts, ys1, ys2, rfl, upd_same, sm _ _ (s6 _ _ hq1), (w1.same s6).same sm, sm _ _ (s6 _ _ hq2), (w2.same s6).same sm, ord, tru, fun G6 kp rm9 => ⟨rfl, ?_⟩⟩
      have s7 : Same G5 G6 := fun b o hb => kp b o (fun e => by rw [e, hx'] at hb; cases hb) (sm _ _ hb)
      obtain ⟨⟨y9, dy9, _, _, _, _, _, _, _, ey9, hy9, _⟩, _, _⟩ := id rm9
      cases ey9
      refine ⟨x, dx, _, .ref C_Room, rfl, s7 _ _ fx6, rm_ty T.k_Room T.x_Room hy9, T.x_Room.nfirst, .ref x, rs, ts, .ref x', rfl, rm6.same s7, .inr ⟨rs, ts, rm9, asc, asc, fun b hb => ?_⟩⟩
      obtain rfl : b = true := hb.mpr ⟨rfl, rfl⟩
      exact q G6 (x8.trans (xk2.trans (Ext.same (z2.trans (s5.trans s7))))) (dk2.same (z2.trans (s5.trans s7)))
end


end My
namespace My
open PySem PySem.Spec PyProof.Rows L2 TL
set_option pp.maxSteps 3000
set_option pp.deepTerms false
/-! ### the law -/
section
variable {P : Program} {w : World} {K : PySem.W.Frag} {mg : Str → Option Value} {base : Heap} {C_Room : Addr}
theorem cells_ok6 {n : Nat} : ∀ j : Int, j = (if (if (n : Int) < 6 then (n : Int) else 6) > 1 then (if (n : Int) < 6 then (n : Int) else 6) else 1) → 1 ≤ j ∧ j ≤ 6 := by
  intro j h
  subst h
  split <;> split <;> omega
theorem ok_law (T : Txt K mg C_Room) (c__law_right : Cal P w K mg base "_law_right" 8 ["_law_dice_here"] (sp__law_right K)) (c__law_dice : Cal P w K mg base "_law_dice" 1 ["_law_script", "_law_spot"] (sp__law_dice K)) {f : Addr} {fd : FuncData} (F : Fun K "law" "law" s_law f fd) : FnOkG P w K mg base CX0 9 f fd ["_law_script"] (sp_law K) := by
  have nd := sc_law.nd
  refine F.okG sc_law (fun vs H Q E h => ?_) (fun cdv A outer s H vs Q E hr hG h => ?_)
  · obtain ⟨a, ns, rfl, _⟩ := h
    rfl
  · obtain ⟨a, ns, rfl, hS, hn, q⟩ := h
    refine ⟨_, (pss_cons (ps_for PassesOwn.never rfl (pi_range1 (by rfl) T.b_range (pa_cons (pe_callB (call_max2 rfl) (by rfl) T.b_max (by decide +kernel) (pa_cons pe_int (pa_cons (pe_callB (call_min2 rfl) (by rfl) T.b_min (by decide +kernel) (pa_cons pe_int (pa_cons (pe_callB call_len (by rfl) T.b_len (by decide +kernel) (pa_cons (pv 0) pa_nil)) pa_nil))) pa_nil))) pa_nil)) (pg_name (i := 1) nd rfl (.inl rfl)) (pss_one (ps_if (pt_not (pt_val (pe_callC c__law_right (hr.mono (by first | decide | omega)) hG rfl (pa_cons (pe_callC c__law_dice (hr.mono (by first | decide | omega)) hG rfl (pa_cons (pv 0) (pa_cons (pv 1) pa_nil))) pa_nil)))) (pss_one (ps_ret pe_bl)) pss_nil)))
      (pss_one (ps_ret pe_bl))), ?_⟩
    obtain ⟨j1, j2⟩ := cells_ok6 (n := ns.length) _ rfl
    refine ⟨.ref a, rfl, .ref a, _, rfl, .inl ⟨_, hS, rfl⟩, 6, _, rfl, 1, _, rfl, _, rfl, ?_, ?_, ?_⟩
    · rw [List.length_map]
      omega
    · rw [List.length_map]
      omega
    rw [List.length_map]
    refine for_range (lo := 0) (fun i σ H' => (∃ s1, σ = [some (.ref a), s1]) ∧ Same H H') ?_ (fun i σ H1 hi hP => ?_) (fun σ H1 hP => ?_)
    · exact ⟨⟨_, rfl⟩, Same.refl H⟩
    · obtain ⟨⟨s1, rfl⟩, sm⟩ := hP
      refine ⟨.ref a, rfl, _, rfl, a, ns, _, rfl, sm.seq hS, by omega, by omega, fun d o hd dd => ?_⟩
      have hdH : H d = none := sm.free hd
      refine ⟨d, rfl, dd, fun H3 e3 d3 => ?_⟩
      have m3 := same_ext (sm.mut hdH) hdH e3
      exact ⟨true, rfl, iteF ⟨⟨_, rfl⟩, m3⟩⟩
    · obtain ⟨⟨s1, rfl⟩, sm⟩ := hP
      exact q _
end


end My
namespace My
open PySem PySem.Spec PyProof.Rows L2 TL
theorem odd_of {K : PySem.W.Frag} {C : Addr} {T : String} (hd : PySem.W.hasDictIn K C = true) (ty : PySem.W.typeIn K (.ref C) = some (.type "type")) (sb : PySem.W.subIn K (.type T) (.ref C) = some false) : PySem.W.kitOne K (.type T) (.ref C) = some false := by
  have h : (PySem.W.clsIn K C).isSome = true := by
    unfold PySem.W.hasDictIn at hd
    cases e : PySem.W.clsIn K C with
    | none => rw [e] at hd; cases hd
    | some c => rfl
  unfold PySem.W.kitOne
  have e : (Value.type T == Value.ref C) = false := by first | rfl | (apply Bool.eq_false_iff.mpr; intro z; exact Value.noConfusion (eq_of_beq z)) | simp
  rw [e]
  show (if ((PySem.W.clsIn K C).isSome && PySem.W.typeIn K (.ref C) == some (.type "type")) = true then PySem.W.subIn K (.type T) (.ref C) else none) = some false
  rw [if_pos (by rw [h, ty]; decide +kernel)]
  exact sb
theorem ni_of {K : PySem.W.Frag} {C : Addr} {T : String} (km : PySem.W.kitMeta T = true) (sb : PySem.W.subIn K (.ref C) (.type T) = some false) : PySem.W.kitOne K (.ref C) (.type T) = some false := by
  unfold PySem.W.kitOne
  have e : (Value.ref C == Value.type T) = false := by first | rfl | (apply Bool.eq_false_iff.mpr; intro z; exact Value.noConfusion (eq_of_beq z)) | simp
  rw [e]
  show (if PySem.W.kitMeta T = true then PySem.W.subIn K (.ref C) (.type T) else none) = some false
  rw [if_pos km]
  exact sb

theorem all_mk {l : PySem.W.OpenLaw} {w : World} {K : PySem.W.Frag} {h : Heap} {mg : Str → Option Value} {fa : Addr} (X : K.In h) (G : h.Ns mainGlobals mg) (hfa : mg "law" = some (.ref fa))
     {C_Room : Addr} {f__law_room_turned : Addr} {od__law_room_turned an__law_room_turned : Option Addr} {sl__law_room_turned : Array (Option Value)} {oc__law_room_turned kV__law_room_turned dc__law_room_turned pm__law_room_turned cd__law_room_turned ct__law_room_turned : Value} {f__law_roll : Addr} {od__law_roll an__law_roll : Option Addr} {sl__law_roll : Array (Option Value)} {oc__law_roll kV__law_roll dc__law_roll pm__law_roll cd__law_roll ct__law_roll : Value} {f__law_some : Addr} {od__law_some an__law_some : Option Addr} {sl__law_some : Array (Option Value)} {oc__law_some kV__law_some dc__law_some pm__law_some cd__law_some ct__law_some : Value} {f__law_room : Addr} {od__law_room an__law_room : Option Addr} {sl__law_room : Array (Option Value)} {oc__law_room kV__law_room dc__law_room pm__law_room cd__law_room ct__law_room : Value} {f__law_pick : Addr} {od__law_pick an__law_pick : Option Addr} {sl__law_pick : Array (Option Value)} {oc__law_pick kV__law_pick dc__law_pick pm__law_pick cd__law_pick ct__law_pick : Value} {f__law_bent : Addr} {od__law_bent an__law_bent : Option Addr} {sl__law_bent : Array (Option Value)} {oc__law_bent kV__law_bent dc__law_bent pm__law_bent cd__law_bent ct__law_bent : Value} {f_bits_of : Addr} {od_bits_of an_bits_of : Option Addr} {sl_bits_of : Array (Option Value)} {oc_bits_of kV_bits_of dc_bits_of pm_bits_of cd_bits_of ct_bits_of : Value} {f_has_bit : Addr} {od_has_bit an_has_bit : Option Addr} {sl_has_bit : Array (Option Value)} {oc_has_bit kV_has_bit dc_has_bit pm_has_bit cd_has_bit ct_has_bit : Value} {f__is_placed : Addr} {od__is_placed an__is_placed : Option Addr} {sl__is_placed : Array (Option Value)} {oc__is_placed kV__is_placed dc__is_placed pm__is_placed cd__is_placed ct__is_placed : Value} {f_is_ascending : Addr} {od_is_ascending an_is_ascending : Option Addr} {sl_is_ascending : Array (Option Value)} {oc_is_ascending kV_is_ascending dc_is_ascending pm_is_ascending cd_is_ascending ct_is_ascending : Value} {f_is_integer : Addr} {od_is_integer an_is_integer : Option Addr} {sl_is_integer : Array (Option Value)} {oc_is_integer kV_is_integer dc_is_integer pm_is_integer cd_is_integer ct_is_integer : Value} {f__is_row : Addr} {od__is_row an__is_row : Option Addr} {sl__is_row : Array (Option Value)} {oc__is_row kV__is_row dc__is_row pm__is_row cd__is_row ct__is_row : Value} {f_is_order : Addr} {od_is_order an_is_order : Option Addr} {sl_is_order : Array (Option Value)} {oc_is_order kV_is_order dc_is_order pm_is_order cd_is_order ct_is_order : Value} {f_is_word : Addr} {od_is_word an_is_word : Option Addr} {sl_is_word : Array (Option Value)} {oc_is_word kV_is_word dc_is_word pm_is_word cd_is_word ct_is_word : Value} {f__is_row_of_atoms : Addr} {od__is_row_of_atoms an__is_row_of_atoms : Option Addr} {sl__is_row_of_atoms : Array (Option Value)} {oc__is_row_of_atoms kV__is_row_of_atoms dc__is_row_of_atoms pm__is_row_of_atoms cd__is_row_of_atoms ct__is_row_of_atoms : Value} {f_are_truths : Addr} {od_are_truths an_are_truths : Option Addr} {sl_are_truths : Array (Option Value)} {oc_are_truths kV_are_truths dc_are_truths pm_are_truths cd_are_truths ct_are_truths : Value} {f_Room___init__ : Addr} {od_Room___init__ an_Room___init__ : Option Addr} {sl_Room___init__ : Array (Option Value)} {oc_Room___init__ kV_Room___init__ dc_Room___init__ pm_Room___init__ cd_Room___init__ ct_Room___init__ : Value} {f__law_made_room : Addr} {od__law_made_room an__law_made_room : Option Addr} {sl__law_made_room : Array (Option Value)} {oc__law_made_room kV__law_made_room dc__law_made_room pm__law_made_room cd__law_made_room ct__law_made_room : Value} {f_Room___len__ : Addr} {od_Room___len__ an_Room___len__ : Option Addr} {sl_Room___len__ : Array (Option Value)} {oc_Room___len__ kV_Room___len__ dc_Room___len__ pm_Room___len__ cd_Room___len__ ct_Room___len__ : Value} {f__law_is_made : Addr} {od__law_is_made an__law_is_made : Option Addr} {sl__law_is_made : Array (Option Value)} {oc__law_is_made kV__law_is_made dc__law_is_made pm__law_is_made cd__law_is_made ct__law_is_made : Value} {f__law_is_room : Addr} {od__law_is_room an__law_is_room : Option Addr} {sl__law_is_room : Array (Option Value)} {oc__law_is_room kV__law_is_room dc__law_is_room pm__law_is_room cd__law_is_room ct__law_is_room : Value} {f_Room_atoms : Addr} {od_Room_atoms an_Room_atoms : Option Addr} {sl_Room_atoms : Array (Option Value)} {oc_Room_atoms kV_Room_atoms dc_Room_atoms pm_Room_atoms cd_Room_atoms ct_Room_atoms : Value} {p_Room_atoms : Addr} {rs_Room_atoms : List Value} {f_Room_reach : Addr} {od_Room_reach an_Room_reach : Option Addr} {sl_Room_reach : Array (Option Value)} {oc_Room_reach kV_Room_reach dc_Room_reach pm_Room_reach cd_Room_reach ct_Room_reach : Value} {p_Room_reach : Addr} {rs_Room_reach : List Value} {f_Room_truths : Addr} {od_Room_truths an_Room_truths : Option Addr} {sl_Room_truths : Array (Option Value)} {oc_Room_truths kV_Room_truths dc_Room_truths pm_Room_truths cd_Room_truths ct_Room_truths : Value} {p_Room_truths : Addr} {rs_Room_truths : List Value} {f_Room___getitem__ : Addr} {od_Room___getitem__ an_Room___getitem__ : Option Addr} {sl_Room___getitem__ : Array (Option Value)} {oc_Room___getitem__ kV_Room___getitem__ dc_Room___getitem__ pm_Room___getitem__ cd_Room___getitem__ ct_Room___getitem__ : Value} {f_Room___str__ : Addr} {od_Room___str__ an_Room___str__ : Option Addr} {sl_Room___str__ : Array (Option Value)} {oc_Room___str__ kV_Room___str__ dc_Room___str__ pm_Room___str__ cd_Room___str__ ct_Room___str__ : Value} {f__law_told_right : Addr} {od__law_told_right an__law_told_right : Option Addr} {sl__law_told_right : Array (Option Value)} {oc__law_told_right kV__law_told_right dc__law_told_right pm__law_told_right cd__law_told_right ct__law_told_right : Value} {f_Room___eq__ : Addr} {od_Room___eq__ an_Room___eq__ : Option Addr} {sl_Room___eq__ : Array (Option Value)} {oc_Room___eq__ kV_Room___eq__ dc_Room___eq__ pm_Room___eq__ cd_Room___eq__ ct_Room___eq__ : Value} {f__law_right : Addr} {od__law_right an__law_right : Option Addr} {sl__law_right : Array (Option Value)} {oc__law_right kV__law_right dc__law_right pm__law_right cd__law_right ct__law_right : Value} {f__law_dice : Addr} {od__law_dice an__law_dice : Option Addr} {sl__law_dice : Array (Option Value)} {oc__law_dice kV__law_dice dc__law_dice pm__law_dice cd__law_dice ct__law_dice : Value} {f_law : Addr} {od_law an_law : Option Addr} {sl_law : Array (Option Value)} {oc_law kV_law dc_law pm_law cd_law ct_law : Value} {t_MAX_LETTERS : Tok} {t_MAX_WORLDS : Tok} {C_InvalidRoom : Addr}
    (aC_Room : PySem.W.nsIn K mainGlobals "Room" = some (some (.ref C_Room)))
    (pg_Room : PySem.W.plainGet K C_Room Str.empty = true)
    (hd_Room : PySem.W.hasDictIn K C_Room = true)
    (po_Room : PySem.W.plainOver K C_Room = true)
    (sa_Room : PySem.W.findIn K (.ref C_Room) "__setattr__" = some (some (.builtin "object.__setattr__")))
    (mk_Room : PySem.W.makesIn K C_Room = true)
    (kc_Room : PySem.W.keepIn K (.ref C_Room) = true)
    (n_reach_Room : PySem.W.findIn K (.ref C_Room) "_reach" = some none)
    (n_truths_Room : PySem.W.findIn K (.ref C_Room) "_truths" = some none)
    (n_rows_Room : PySem.W.findIn K (.ref C_Room) "_rows" = some none)
    (n_above_Room : PySem.W.findIn K (.ref C_Room) "_above" = some none)
    (fst_Room : PySem.W.selfFirst K C_Room = true)
    (nfs_Room : PySem.W.notFirst K C_Room (.ref C_Room) = true)
    (ni_tuple_Room : PySem.W.subIn K (.ref C_Room) (.type "tuple") = some false)
    (tyt_Room : PySem.W.typeIn K (.ref C_Room) = some (.type "type"))
    (od_NoneType_Room : PySem.W.subIn K (.type "NoneType") (.ref C_Room) = some false)
    (nf_NoneType_Room : PySem.W.notFirst K C_Room (.type "NoneType") = true)
    (od_int_Room : PySem.W.subIn K (.type "int") (.ref C_Room) = some false)
    (nf_int_Room : PySem.W.notFirst K C_Room (.type "int") = true)
    (od_str_Room : PySem.W.subIn K (.type "str") (.ref C_Room) = some false)
    (nf_str_Room : PySem.W.notFirst K C_Room (.type "str") = true)
    (od_tuple_Room : PySem.W.subIn K (.type "tuple") (.ref C_Room) = some false)
    (nf_tuple_Room : PySem.W.notFirst K C_Room (.type "tuple") = true)
    (od_list_Room : PySem.W.subIn K (.type "list") (.ref C_Room) = some false)
    (nf_list_Room : PySem.W.notFirst K C_Room (.type "list") = true)
    (od_dict_Room : PySem.W.subIn K (.type "dict") (.ref C_Room) = some false)
    (nf_dict_Room : PySem.W.notFirst K C_Room (.type "dict") = true)
    (ne_Room : PySem.W.findIn K (.ref C_Room) "__ne__" = some (some (.builtin "object.__ne__")))
    (un_Room : PySem.W.subIn K (.ref C_Room) (.type "object") = some true)
    (cl1_Room : PySem.W.findIn K (.ref C_Room) "__class__" = some (some (.builtin "object.__class__")))
    (cl2_Room : PySem.W.specialIn K (.builtin "object.__class__") "__get__" = some (some (.builtin "getset_descriptor.__get__")))
    (cl3_Room : PySem.W.takesIn K (.builtin "object.__class__") = some true)
    (cl4_Room : PySem.W.mroIn K C_Room (.type "object") = some true)
    (a__law_room_turned : PySem.W.nsIn K mainGlobals "_law_room_turned" = some (some (.ref f__law_room_turned)))
    (l__law_room_turned : K.lookup f__law_room_turned = some ⟨oc__law_room_turned, od__law_room_turned, .func (PySem.W.fnOf "_law_room_turned" "_law_room_turned" (defArgs s__law_room_turned) (defBody s__law_room_turned) (defScope s__law_room_turned) .none kV__law_room_turned dc__law_room_turned pm__law_room_turned an__law_room_turned cd__law_room_turned ct__law_room_turned), sl__law_room_turned⟩)
    (c__law_room_turned : PySem.W.codeIn K cd__law_room_turned "_law_room_turned" = true)
    (k__law_room_turned : PySem.W.keepIn K (.ref f__law_room_turned) = true)
    (a__law_roll : PySem.W.nsIn K mainGlobals "_law_roll" = some (some (.ref f__law_roll)))
    (l__law_roll : K.lookup f__law_roll = some ⟨oc__law_roll, od__law_roll, .func (PySem.W.fnOf "_law_roll" "_law_roll" (defArgs s__law_roll) (defBody s__law_roll) (defScope s__law_roll) .none kV__law_roll dc__law_roll pm__law_roll an__law_roll cd__law_roll ct__law_roll), sl__law_roll⟩)
    (c__law_roll : PySem.W.codeIn K cd__law_roll "_law_roll" = true)
    (k__law_roll : PySem.W.keepIn K (.ref f__law_roll) = true)
    (a__law_some : PySem.W.nsIn K mainGlobals "_law_some" = some (some (.ref f__law_some)))
    (l__law_some : K.lookup f__law_some = some ⟨oc__law_some, od__law_some, .func (PySem.W.fnOf "_law_some" "_law_some" (defArgs s__law_some) (defBody s__law_some) (defScope s__law_some) .none kV__law_some dc__law_some pm__law_some an__law_some cd__law_some ct__law_some), sl__law_some⟩)
    (c__law_some : PySem.W.codeIn K cd__law_some "_law_some" = true)
    (k__law_some : PySem.W.keepIn K (.ref f__law_some) = true)
    (a__law_room : PySem.W.nsIn K mainGlobals "_law_room" = some (some (.ref f__law_room)))
    (l__law_room : K.lookup f__law_room = some ⟨oc__law_room, od__law_room, .func (PySem.W.fnOf "_law_room" "_law_room" (defArgs s__law_room) (defBody s__law_room) (defScope s__law_room) .none kV__law_room dc__law_room pm__law_room an__law_room cd__law_room ct__law_room), sl__law_room⟩)
    (c__law_room : PySem.W.codeIn K cd__law_room "_law_room" = true)
    (k__law_room : PySem.W.keepIn K (.ref f__law_room) = true)
    (a__law_pick : PySem.W.nsIn K mainGlobals "_law_pick" = some (some (.ref f__law_pick)))
    (l__law_pick : K.lookup f__law_pick = some ⟨oc__law_pick, od__law_pick, .func (PySem.W.fnOf "_law_pick" "_law_pick" (defArgs s__law_pick) (defBody s__law_pick) (defScope s__law_pick) .none kV__law_pick dc__law_pick pm__law_pick an__law_pick cd__law_pick ct__law_pick), sl__law_pick⟩)
    (c__law_pick : PySem.W.codeIn K cd__law_pick "_law_pick" = true)
    (k__law_pick : PySem.W.keepIn K (.ref f__law_pick) = true)
    (a__law_bent : PySem.W.nsIn K mainGlobals "_law_bent" = some (some (.ref f__law_bent)))
    (l__law_bent : K.lookup f__law_bent = some ⟨oc__law_bent, od__law_bent, .func (PySem.W.fnOf "_law_bent" "_law_bent" (defArgs s__law_bent) (defBody s__law_bent) (defScope s__law_bent) .none kV__law_bent dc__law_bent pm__law_bent an__law_bent cd__law_bent ct__law_bent), sl__law_bent⟩)
    (c__law_bent : PySem.W.codeIn K cd__law_bent "_law_bent" = true)
    (k__law_bent : PySem.W.keepIn K (.ref f__law_bent) = true)
    (a_bits_of : PySem.W.nsIn K mainGlobals "bits_of" = some (some (.ref f_bits_of)))
    (l_bits_of : K.lookup f_bits_of = some ⟨oc_bits_of, od_bits_of, .func (PySem.W.fnOf "bits_of" "bits_of" (defArgs s_bits_of) (defBody s_bits_of) (defScope s_bits_of) .none kV_bits_of dc_bits_of pm_bits_of an_bits_of cd_bits_of ct_bits_of), sl_bits_of⟩)
    (c_bits_of : PySem.W.codeIn K cd_bits_of "bits_of" = true)
    (k_bits_of : PySem.W.keepIn K (.ref f_bits_of) = true)
    (a_has_bit : PySem.W.nsIn K mainGlobals "has_bit" = some (some (.ref f_has_bit)))
    (l_has_bit : K.lookup f_has_bit = some ⟨oc_has_bit, od_has_bit, .func (PySem.W.fnOf "has_bit" "has_bit" (defArgs s_has_bit) (defBody s_has_bit) (defScope s_has_bit) .none kV_has_bit dc_has_bit pm_has_bit an_has_bit cd_has_bit ct_has_bit), sl_has_bit⟩)
    (c_has_bit : PySem.W.codeIn K cd_has_bit "has_bit" = true)
    (k_has_bit : PySem.W.keepIn K (.ref f_has_bit) = true)
    (a__is_placed : PySem.W.nsIn K mainGlobals "_is_placed" = some (some (.ref f__is_placed)))
    (l__is_placed : K.lookup f__is_placed = some ⟨oc__is_placed, od__is_placed, .func (PySem.W.fnOf "_is_placed" "_is_placed" (defArgs s__is_placed) (defBody s__is_placed) (defScope s__is_placed) .none kV__is_placed dc__is_placed pm__is_placed an__is_placed cd__is_placed ct__is_placed), sl__is_placed⟩)
    (c__is_placed : PySem.W.codeIn K cd__is_placed "_is_placed" = true)
    (k__is_placed : PySem.W.keepIn K (.ref f__is_placed) = true)
    (a_is_ascending : PySem.W.nsIn K mainGlobals "is_ascending" = some (some (.ref f_is_ascending)))
    (l_is_ascending : K.lookup f_is_ascending = some ⟨oc_is_ascending, od_is_ascending, .func (PySem.W.fnOf "is_ascending" "is_ascending" (defArgs s_is_ascending) (defBody s_is_ascending) (defScope s_is_ascending) .none kV_is_ascending dc_is_ascending pm_is_ascending an_is_ascending cd_is_ascending ct_is_ascending), sl_is_ascending⟩)
    (c_is_ascending : PySem.W.codeIn K cd_is_ascending "is_ascending" = true)
    (k_is_ascending : PySem.W.keepIn K (.ref f_is_ascending) = true)
    (a_is_integer : PySem.W.nsIn K mainGlobals "is_integer" = some (some (.ref f_is_integer)))
    (l_is_integer : K.lookup f_is_integer = some ⟨oc_is_integer, od_is_integer, .func (PySem.W.fnOf "is_integer" "is_integer" (defArgs s_is_integer) (defBody s_is_integer) (defScope s_is_integer) .none kV_is_integer dc_is_integer pm_is_integer an_is_integer cd_is_integer ct_is_integer), sl_is_integer⟩)
    (c_is_integer : PySem.W.codeIn K cd_is_integer "is_integer" = true)
    (k_is_integer : PySem.W.keepIn K (.ref f_is_integer) = true)
    (a__is_row : PySem.W.nsIn K mainGlobals "_is_row" = some (some (.ref f__is_row)))
    (l__is_row : K.lookup f__is_row = some ⟨oc__is_row, od__is_row, .func (PySem.W.fnOf "_is_row" "_is_row" (defArgs s__is_row) (defBody s__is_row) (defScope s__is_row) .none kV__is_row dc__is_row pm__is_row an__is_row cd__is_row ct__is_row), sl__is_row⟩)
    (c__is_row : PySem.W.codeIn K cd__is_row "_is_row" = true)
    (k__is_row : PySem.W.keepIn K (.ref f__is_row) = true)
    (a_is_order : PySem.W.nsIn K mainGlobals "is_order" = some (some (.ref f_is_order)))
    (l_is_order : K.lookup f_is_order = some ⟨oc_is_order, od_is_order, .func (PySem.W.fnOf "is_order" "is_order" (defArgs s_is_order) (defBody s_is_order) (defScope s_is_order) .none kV_is_order dc_is_order pm_is_order an_is_order cd_is_order ct_is_order), sl_is_order⟩)
    (c_is_order : PySem.W.codeIn K cd_is_order "is_order" = true)
    (k_is_order : PySem.W.keepIn K (.ref f_is_order) = true)
    (a_is_word : PySem.W.nsIn K mainGlobals "is_word" = some (some (.ref f_is_word)))
    (l_is_word : K.lookup f_is_word = some ⟨oc_is_word, od_is_word, .func (PySem.W.fnOf "is_word" "is_word" (defArgs s_is_word) (defBody s_is_word) (defScope s_is_word) .none kV_is_word dc_is_word pm_is_word an_is_word cd_is_word ct_is_word), sl_is_word⟩)
    (c_is_word : PySem.W.codeIn K cd_is_word "is_word" = true)
    (k_is_word : PySem.W.keepIn K (.ref f_is_word) = true)
    (a__is_row_of_atoms : PySem.W.nsIn K mainGlobals "_is_row_of_atoms" = some (some (.ref f__is_row_of_atoms)))
    (l__is_row_of_atoms : K.lookup f__is_row_of_atoms = some ⟨oc__is_row_of_atoms, od__is_row_of_atoms, .func (PySem.W.fnOf "_is_row_of_atoms" "_is_row_of_atoms" (defArgs s__is_row_of_atoms) (defBody s__is_row_of_atoms) (defScope s__is_row_of_atoms) .none kV__is_row_of_atoms dc__is_row_of_atoms pm__is_row_of_atoms an__is_row_of_atoms cd__is_row_of_atoms ct__is_row_of_atoms), sl__is_row_of_atoms⟩)
    (c__is_row_of_atoms : PySem.W.codeIn K cd__is_row_of_atoms "_is_row_of_atoms" = true)
    (k__is_row_of_atoms : PySem.W.keepIn K (.ref f__is_row_of_atoms) = true)
    (a_are_truths : PySem.W.nsIn K mainGlobals "are_truths" = some (some (.ref f_are_truths)))
    (l_are_truths : K.lookup f_are_truths = some ⟨oc_are_truths, od_are_truths, .func (PySem.W.fnOf "are_truths" "are_truths" (defArgs s_are_truths) (defBody s_are_truths) (defScope s_are_truths) .none kV_are_truths dc_are_truths pm_are_truths an_are_truths cd_are_truths ct_are_truths), sl_are_truths⟩)
    (c_are_truths : PySem.W.codeIn K cd_are_truths "are_truths" = true)
    (k_are_truths : PySem.W.keepIn K (.ref f_are_truths) = true)
    (a_Room___init__ : PySem.W.findIn K (.ref C_Room) "__init__" = some (some (.ref f_Room___init__)))
    (i_Room___init__ : PySem.W.isFn K (.ref f_Room___init__) = true)
    (l_Room___init__ : K.lookup f_Room___init__ = some ⟨oc_Room___init__, od_Room___init__, .func (PySem.W.fnOf "__init__" "Room.__init__" (defArgs s_Room___init__) (defBody s_Room___init__) (defScope s_Room___init__) .none kV_Room___init__ dc_Room___init__ pm_Room___init__ an_Room___init__ cd_Room___init__ ct_Room___init__), sl_Room___init__⟩)
    (c_Room___init__ : PySem.W.codeIn K cd_Room___init__ "Room.__init__" = true)
    (k_Room___init__ : PySem.W.keepIn K (.ref f_Room___init__) = true)
    (a__law_made_room : PySem.W.nsIn K mainGlobals "_law_made_room" = some (some (.ref f__law_made_room)))
    (l__law_made_room : K.lookup f__law_made_room = some ⟨oc__law_made_room, od__law_made_room, .func (PySem.W.fnOf "_law_made_room" "_law_made_room" (defArgs s__law_made_room) (defBody s__law_made_room) (defScope s__law_made_room) .none kV__law_made_room dc__law_made_room pm__law_made_room an__law_made_room cd__law_made_room ct__law_made_room), sl__law_made_room⟩)
    (c__law_made_room : PySem.W.codeIn K cd__law_made_room "_law_made_room" = true)
    (k__law_made_room : PySem.W.keepIn K (.ref f__law_made_room) = true)
    (a_Room___len__ : PySem.W.findIn K (.ref C_Room) "__len__" = some (some (.ref f_Room___len__)))
    (i_Room___len__ : PySem.W.isFn K (.ref f_Room___len__) = true)
    (l_Room___len__ : K.lookup f_Room___len__ = some ⟨oc_Room___len__, od_Room___len__, .func (PySem.W.fnOf "__len__" "Room.__len__" (defArgs s_Room___len__) (defBody s_Room___len__) (defScope s_Room___len__) .none kV_Room___len__ dc_Room___len__ pm_Room___len__ an_Room___len__ cd_Room___len__ ct_Room___len__), sl_Room___len__⟩)
    (c_Room___len__ : PySem.W.codeIn K cd_Room___len__ "Room.__len__" = true)
    (k_Room___len__ : PySem.W.keepIn K (.ref f_Room___len__) = true)
    (a__law_is_made : PySem.W.nsIn K mainGlobals "_law_is_made" = some (some (.ref f__law_is_made)))
    (l__law_is_made : K.lookup f__law_is_made = some ⟨oc__law_is_made, od__law_is_made, .func (PySem.W.fnOf "_law_is_made" "_law_is_made" (defArgs s__law_is_made) (defBody s__law_is_made) (defScope s__law_is_made) .none kV__law_is_made dc__law_is_made pm__law_is_made an__law_is_made cd__law_is_made ct__law_is_made), sl__law_is_made⟩)
    (c__law_is_made : PySem.W.codeIn K cd__law_is_made "_law_is_made" = true)
    (k__law_is_made : PySem.W.keepIn K (.ref f__law_is_made) = true)
    (a__law_is_room : PySem.W.nsIn K mainGlobals "_law_is_room" = some (some (.ref f__law_is_room)))
    (l__law_is_room : K.lookup f__law_is_room = some ⟨oc__law_is_room, od__law_is_room, .func (PySem.W.fnOf "_law_is_room" "_law_is_room" (defArgs s__law_is_room) (defBody s__law_is_room) (defScope s__law_is_room) .none kV__law_is_room dc__law_is_room pm__law_is_room an__law_is_room cd__law_is_room ct__law_is_room), sl__law_is_room⟩)
    (c__law_is_room : PySem.W.codeIn K cd__law_is_room "_law_is_room" = true)
    (k__law_is_room : PySem.W.keepIn K (.ref f__law_is_room) = true)
    (a_Room_atoms : PySem.W.findIn K (.ref C_Room) "atoms" = some (some (.ref p_Room_atoms)))
    (g_Room_atoms : PySem.W.specialIn K (.ref p_Room_atoms) "__get__" = some (some (.builtin "property.__get__")))
    (t_Room_atoms : PySem.W.takesIn K (.ref p_Room_atoms) = some true)
    (r_Room_atoms : PySem.W.recIn K p_Room_atoms "property" = some (.ref f_Room_atoms :: rs_Room_atoms))
    (l_Room_atoms : K.lookup f_Room_atoms = some ⟨oc_Room_atoms, od_Room_atoms, .func (PySem.W.fnOf "atoms" "Room.atoms" (defArgs s_Room_atoms) (defBody s_Room_atoms) (defScope s_Room_atoms) .none kV_Room_atoms dc_Room_atoms pm_Room_atoms an_Room_atoms cd_Room_atoms ct_Room_atoms), sl_Room_atoms⟩)
    (c_Room_atoms : PySem.W.codeIn K cd_Room_atoms "Room.atoms" = true)
    (k_Room_atoms : PySem.W.keepIn K (.ref f_Room_atoms) = true)
    (a_Room_reach : PySem.W.findIn K (.ref C_Room) "reach" = some (some (.ref p_Room_reach)))
    (g_Room_reach : PySem.W.specialIn K (.ref p_Room_reach) "__get__" = some (some (.builtin "property.__get__")))
    (t_Room_reach : PySem.W.takesIn K (.ref p_Room_reach) = some true)
    (r_Room_reach : PySem.W.recIn K p_Room_reach "property" = some (.ref f_Room_reach :: rs_Room_reach))
    (l_Room_reach : K.lookup f_Room_reach = some ⟨oc_Room_reach, od_Room_reach, .func (PySem.W.fnOf "reach" "Room.reach" (defArgs s_Room_reach) (defBody s_Room_reach) (defScope s_Room_reach) .none kV_Room_reach dc_Room_reach pm_Room_reach an_Room_reach cd_Room_reach ct_Room_reach), sl_Room_reach⟩)
    (c_Room_reach : PySem.W.codeIn K cd_Room_reach "Room.reach" = true)
    (k_Room_reach : PySem.W.keepIn K (.ref f_Room_reach) = true)
    (a_Room_truths : PySem.W.findIn K (.ref C_Room) "truths" = some (some (.ref p_Room_truths)))
    (g_Room_truths : PySem.W.specialIn K (.ref p_Room_truths) "__get__" = some (some (.builtin "property.__get__")))
    (t_Room_truths : PySem.W.takesIn K (.ref p_Room_truths) = some true)
    (r_Room_truths : PySem.W.recIn K p_Room_truths "property" = some (.ref f_Room_truths :: rs_Room_truths))
    (l_Room_truths : K.lookup f_Room_truths = some ⟨oc_Room_truths, od_Room_truths, .func (PySem.W.fnOf "truths" "Room.truths" (defArgs s_Room_truths) (defBody s_Room_truths) (defScope s_Room_truths) .none kV_Room_truths dc_Room_truths pm_Room_truths an_Room_truths cd_Room_truths ct_Room_truths), sl_Room_truths⟩)
    (c_Room_truths : PySem.W.codeIn K cd_Room_truths "Room.truths" = true)
    (k_Room_truths : PySem.W.keepIn K (.ref f_Room_truths) = true)
    (a_Room___getitem__ : PySem.W.findIn K (.ref C_Room) "__getitem__" = some (some (.ref f_Room___getitem__)))
    (i_Room___getitem__ : PySem.W.isFn K (.ref f_Room___getitem__) = true)
    (fi_Room___getitem__ : PySem.W.fnIn K f_Room___getitem__ = true)
    (l_Room___getitem__ : K.lookup f_Room___getitem__ = some ⟨oc_Room___getitem__, od_Room___getitem__, .func (PySem.W.fnOf "__getitem__" "Room.__getitem__" (defArgs s_Room___getitem__) (defBody s_Room___getitem__) (defScope s_Room___getitem__) .none kV_Room___getitem__ dc_Room___getitem__ pm_Room___getitem__ an_Room___getitem__ cd_Room___getitem__ ct_Room___getitem__), sl_Room___getitem__⟩)
    (c_Room___getitem__ : PySem.W.codeIn K cd_Room___getitem__ "Room.__getitem__" = true)
    (k_Room___getitem__ : PySem.W.keepIn K (.ref f_Room___getitem__) = true)
    (a_Room___str__ : PySem.W.findIn K (.ref C_Room) "__str__" = some (some (.ref f_Room___str__)))
    (i_Room___str__ : PySem.W.isFn K (.ref f_Room___str__) = true)
    (l_Room___str__ : K.lookup f_Room___str__ = some ⟨oc_Room___str__, od_Room___str__, .func (PySem.W.fnOf "__str__" "Room.__str__" (defArgs s_Room___str__) (defBody s_Room___str__) (defScope s_Room___str__) .none kV_Room___str__ dc_Room___str__ pm_Room___str__ an_Room___str__ cd_Room___str__ ct_Room___str__), sl_Room___str__⟩)
    (c_Room___str__ : PySem.W.codeIn K cd_Room___str__ "Room.__str__" = true)
    (k_Room___str__ : PySem.W.keepIn K (.ref f_Room___str__) = true)
    (a__law_told_right : PySem.W.nsIn K mainGlobals "_law_told_right" = some (some (.ref f__law_told_right)))
    (l__law_told_right : K.lookup f__law_told_right = some ⟨oc__law_told_right, od__law_told_right, .func (PySem.W.fnOf "_law_told_right" "_law_told_right" (defArgs s__law_told_right) (defBody s__law_told_right) (defScope s__law_told_right) .none kV__law_told_right dc__law_told_right pm__law_told_right an__law_told_right cd__law_told_right ct__law_told_right), sl__law_told_right⟩)
    (c__law_told_right : PySem.W.codeIn K cd__law_told_right "_law_told_right" = true)
    (k__law_told_right : PySem.W.keepIn K (.ref f__law_told_right) = true)
    (a_Room___eq__ : PySem.W.findIn K (.ref C_Room) "__eq__" = some (some (.ref f_Room___eq__)))
    (i_Room___eq__ : PySem.W.isFn K (.ref f_Room___eq__) = true)
    (l_Room___eq__ : K.lookup f_Room___eq__ = some ⟨oc_Room___eq__, od_Room___eq__, .func (PySem.W.fnOf "__eq__" "Room.__eq__" (defArgs s_Room___eq__) (defBody s_Room___eq__) (defScope s_Room___eq__) .none kV_Room___eq__ dc_Room___eq__ pm_Room___eq__ an_Room___eq__ cd_Room___eq__ ct_Room___eq__), sl_Room___eq__⟩)
    (c_Room___eq__ : PySem.W.codeIn K cd_Room___eq__ "Room.__eq__" = true)
    (k_Room___eq__ : PySem.W.keepIn K (.ref f_Room___eq__) = true)
    (a__law_right : PySem.W.nsIn K mainGlobals "_law_right" = some (some (.ref f__law_right)))
    (l__law_right : K.lookup f__law_right = some ⟨oc__law_right, od__law_right, .func (PySem.W.fnOf "_law_right" "_law_right" (defArgs s__law_right) (defBody s__law_right) (defScope s__law_right) .none kV__law_right dc__law_right pm__law_right an__law_right cd__law_right ct__law_right), sl__law_right⟩)
    (c__law_right : PySem.W.codeIn K cd__law_right "_law_right" = true)
    (k__law_right : PySem.W.keepIn K (.ref f__law_right) = true)
    (a__law_dice : PySem.W.nsIn K mainGlobals "_law_dice" = some (some (.ref f__law_dice)))
    (l__law_dice : K.lookup f__law_dice = some ⟨oc__law_dice, od__law_dice, .func (PySem.W.fnOf "_law_dice" "_law_dice" (defArgs s__law_dice) (defBody s__law_dice) (defScope s__law_dice) .none kV__law_dice dc__law_dice pm__law_dice an__law_dice cd__law_dice ct__law_dice), sl__law_dice⟩)
    (c__law_dice : PySem.W.codeIn K cd__law_dice "_law_dice" = true)
    (k__law_dice : PySem.W.keepIn K (.ref f__law_dice) = true)
    (a_law : PySem.W.nsIn K mainGlobals "law" = some (some (.ref f_law)))
    (l_law : K.lookup f_law = some ⟨oc_law, od_law, .func (PySem.W.fnOf "law" "law" (defArgs s_law) (defBody s_law) (defScope s_law) .none kV_law dc_law pm_law an_law cd_law ct_law), sl_law⟩)
    (c_law : PySem.W.codeIn K cd_law "law" = true)
    (k_law : PySem.W.keepIn K (.ref f_law) = true)
    (z_RuntimeError : PySem.W.nsIn K mainGlobals "RuntimeError" = some none)
    (z_ValueError : PySem.W.nsIn K mainGlobals "ValueError" = some none)
    (z_abs : PySem.W.nsIn K mainGlobals "abs" = some none)
    (z_all : PySem.W.nsIn K mainGlobals "all" = some none)
    (z_any : PySem.W.nsIn K mainGlobals "any" = some none)
    (z_bool : PySem.W.nsIn K mainGlobals "bool" = some none)
    (z_dict : PySem.W.nsIn K mainGlobals "dict" = some none)
    (z_enumerate : PySem.W.nsIn K mainGlobals "enumerate" = some none)
    (z_int : PySem.W.nsIn K mainGlobals "int" = some none)
    (z_isinstance : PySem.W.nsIn K mainGlobals "isinstance" = some none)
    (z_iter : PySem.W.nsIn K mainGlobals "iter" = some none)
    (z_len : PySem.W.nsIn K mainGlobals "len" = some none)
    (z_list : PySem.W.nsIn K mainGlobals "list" = some none)
    (z_max : PySem.W.nsIn K mainGlobals "max" = some none)
    (z_min : PySem.W.nsIn K mainGlobals "min" = some none)
    (z_property : PySem.W.nsIn K mainGlobals "property" = some none)
    (z_range : PySem.W.nsIn K mainGlobals "range" = some none)
    (z_set : PySem.W.nsIn K mainGlobals "set" = some none)
    (z_sorted : PySem.W.nsIn K mainGlobals "sorted" = some none)
    (z_str : PySem.W.nsIn K mainGlobals "str" = some none)
    (z_sum : PySem.W.nsIn K mainGlobals "sum" = some none)
    (z_tuple : PySem.W.nsIn K mainGlobals "tuple" = some none)
    (z_zip : PySem.W.nsIn K mainGlobals "zip" = some none)
    (g_MAX_LETTERS : PySem.W.nsIn K mainGlobals "MAX_LETTERS" = some (some (.int 8 t_MAX_LETTERS)))
    (g_MAX_WORLDS : PySem.W.nsIn K mainGlobals "MAX_WORLDS" = some (some (.int 60 t_MAX_WORLDS)))
    (ea_InvalidRoom : PySem.W.nsIn K mainGlobals "InvalidRoom" = some (some (.ref C_InvalidRoom)))
    (ex_InvalidRoom : PySem.W.excIn K C_InvalidRoom [.type "ValueError", .type "Exception", .type "BaseException", .type "object"] "ValueError.__new__" = true)
    (ek_InvalidRoom : PySem.W.keepIn K (.ref C_InvalidRoom) = true)
    (eb_InvalidRoom : PySem.W.subIn K (.ref C_InvalidRoom) (.type "BaseException") = some true)
    (et_InvalidRoom : PySem.W.typeIn K (.ref C_InvalidRoom) = some (.type "type")) :
    ∃ fd : FuncData, (∀ (s : Shared) (v : Value), BindsTo s fd ⟨[v], []⟩ [("_law_script", v)]) ∧ ∀ base : Heap, K.In base → base.Ns mainGlobals mg → FnOkG l.prog w K mg base CX0 9 fa fd ["_law_script"] (sp_law K) := by
  have e := hfa.symm.trans (PySem.W.mg_of X G a_law)
  cases e
  have k_Room : Cls K C_Room := ⟨pg_Room, hd_Room, po_Room, sa_Room⟩
  have x_Room : XRoom K C_Room := ⟨n_reach_Room, n_truths_Room, n_rows_Room, n_above_Room, fst_Room, nfs_Room, (ni_of (by decide +kernel) ni_tuple_Room), (odd_of hd_Room tyt_Room od_NoneType_Room), nf_NoneType_Room, (odd_of hd_Room tyt_Room od_int_Room), nf_int_Room, (odd_of hd_Room tyt_Room od_str_Room), nf_str_Room, (odd_of hd_Room tyt_Room od_tuple_Room), nf_tuple_Room, (odd_of hd_Room tyt_Room od_list_Room), nf_list_Room, (odd_of hd_Room tyt_Room od_dict_Room), nf_dict_Room, (fun f M => by have e := M.at_.symm.trans a_Room___getitem__; cases e; exact fi_Room___getitem__), ne_Room, un_Room, cl1_Room, cl2_Room, cl3_Room, cl4_Room⟩
  have T : Txt K mg C_Room := ⟨PySem.W.mg_of X G aC_Room, k_Room, x_Room, PySem.W.mg_none_of X G z_RuntimeError, PySem.W.mg_none_of X G z_ValueError, PySem.W.mg_none_of X G z_abs, PySem.W.mg_none_of X G z_all, PySem.W.mg_none_of X G z_any, PySem.W.mg_none_of X G z_bool, PySem.W.mg_none_of X G z_dict, PySem.W.mg_none_of X G z_enumerate, PySem.W.mg_none_of X G z_int, PySem.W.mg_none_of X G z_isinstance, PySem.W.mg_none_of X G z_iter, PySem.W.mg_none_of X G z_len, PySem.W.mg_none_of X G z_list, PySem.W.mg_none_of X G z_max, PySem.W.mg_none_of X G z_min, PySem.W.mg_none_of X G z_property, PySem.W.mg_none_of X G z_range, PySem.W.mg_none_of X G z_set, PySem.W.mg_none_of X G z_sorted, PySem.W.mg_none_of X G z_str, PySem.W.mg_none_of X G z_sum, PySem.W.mg_none_of X G z_tuple, PySem.W.mg_none_of X G z_zip, ⟨_, PySem.W.mg_of X G g_MAX_LETTERS, ⟨_, rfl⟩⟩, ⟨_, PySem.W.mg_of X G g_MAX_WORLDS, ⟨_, rfl⟩⟩⟩
  have e_InvalidRoom : ErrT K mg "InvalidRoom" C_InvalidRoom := ⟨ex_InvalidRoom, PySem.W.mg_of X G ea_InvalidRoom, ek_InvalidRoom, eb_InvalidRoom, et_InvalidRoom⟩
  refine ⟨PySem.W.fnOf "law" "law" (defArgs s_law) (defBody s_law) (defScope s_law) .none kV_law dc_law pm_law an_law cd_law ct_law, fun s v => .of_eq rfl, fun base _ _ => ?_⟩
  have F__law_room_turned := fun_mk (st := s__law_room_turned) l__law_room_turned c__law_room_turned k__law_room_turned
  have B__law_room_turned := F__law_room_turned.binds (ps := ["_law_order", "_law_reach", "_law_truths"]) fun _ _ _ _ _ _ us hl => match us, hl with | [_, _, _], _ => rfl
  have D__law_room_turned : Cal l.prog w K mg base "_law_room_turned" 1 ["_law_order", "_law_reach", "_law_truths"] (sp__law_room_turned K) := ⟨_, _, ok__law_room_turned (P := l.prog) (w := w) (base := base) T F__law_room_turned, PySem.W.mg_of X G a__law_room_turned, k__law_room_turned, B__law_room_turned⟩
  have F__law_roll := fun_mk (st := s__law_roll) l__law_roll c__law_roll k__law_roll
  have B__law_roll := F__law_roll.binds (ps := ["_law_dice_here", "_law_total"]) fun _ _ _ _ _ _ us hl => match us, hl with | [_, _], _ => rfl
  have D__law_roll : Cal l.prog w K mg base "_law_roll" 1 ["_law_dice_here", "_law_total"] (sp__law_roll K) := ⟨_, _, ok__law_roll (P := l.prog) (w := w) (base := base) T F__law_roll, PySem.W.mg_of X G a__law_roll, k__law_roll, B__law_roll⟩
  have F__law_some := fun_mk (st := s__law_some) l__law_some c__law_some k__law_some
  have B__law_some := F__law_some.binds (ps := ["_law_dice_here", "_law_items", "_law_size"]) fun _ _ _ _ _ _ us hl => match us, hl with | [_, _, _], _ => rfl
  have D__law_some : Cal l.prog w K mg base "_law_some" 2 ["_law_dice_here", "_law_items", "_law_size"] (sp__law_some4 K) := ⟨_, _, ok__law_some (P := l.prog) (w := w) (base := base) T D__law_roll F__law_some, PySem.W.mg_of X G a__law_some, k__law_some, B__law_some⟩
  have F__law_room := fun_mk (st := s__law_room) l__law_room c__law_room k__law_room
  have B__law_room := F__law_room.binds (ps := ["_law_dice_here", "_law_atoms"]) fun _ _ _ _ _ _ us hl => match us, hl with | [_, _], _ => rfl
  have D__law_room : Cal l.prog w K mg base "_law_room" 3 ["_law_dice_here", "_law_atoms"] (sp__law_room K) := ⟨_, _, ok__law_room (P := l.prog) (w := w) (base := base) T D__law_room_turned D__law_roll D__law_some F__law_room, PySem.W.mg_of X G a__law_room, k__law_room, B__law_room⟩
  have F__law_pick := fun_mk (st := s__law_pick) l__law_pick c__law_pick k__law_pick
  have B__law_pick := F__law_pick.binds (ps := ["_law_dice_here", "_law_items"]) fun _ _ _ _ _ _ us hl => match us, hl with | [_, _], _ => rfl
  have D__law_pick : Cal l.prog w K mg base "_law_pick" 2 ["_law_dice_here", "_law_items"] (sp__law_pick K) := ⟨_, _, ok__law_pick (P := l.prog) (w := w) (base := base) T D__law_roll F__law_pick, PySem.W.mg_of X G a__law_pick, k__law_pick, B__law_pick⟩
  have F__law_bent := fun_mk (st := s__law_bent) l__law_bent c__law_bent k__law_bent
  have B__law_bent := F__law_bent.binds (ps := ["_law_dice_here", "_law_room_here"]) fun _ _ _ _ _ _ us hl => match us, hl with | [_, _], _ => rfl
  have D__law_bent : Cal l.prog w K mg base "_law_bent" 3 ["_law_dice_here", "_law_room_here"] (sp__law_bent K) := ⟨_, _, ok__law_bent (P := l.prog) (w := w) (base := base) T D__law_roll D__law_pick F__law_bent, PySem.W.mg_of X G a__law_bent, k__law_bent, B__law_bent⟩
  have F_bits_of := fun_mk (st := s_bits_of) l_bits_of c_bits_of k_bits_of
  have B_bits_of := F_bits_of.binds (ps := ["row"]) fun _ _ _ _ _ _ us hl => match us, hl with | [_], _ => rfl
  have D_bits_of : CalN l.prog w K mg base "bits_of" 1 ["row"] (sp_bits_of K) := ⟨_, _, ok_bits_of (P := l.prog) (w := w) (base := base) T F_bits_of, PySem.W.mg_of X G a_bits_of, k_bits_of, B_bits_of⟩
  have F_has_bit := fun_mk (st := s_has_bit) l_has_bit c_has_bit k_has_bit
  have B_has_bit := F_has_bit.binds (ps := ["bits", "at"]) fun _ _ _ _ _ _ us hl => match us, hl with | [_, _], _ => rfl
  have D_has_bit : CalN l.prog w K mg base "has_bit" 1 ["bits", "at"] (sp_has_bit K) := ⟨_, _, ok_has_bit (P := l.prog) (w := w) (base := base) T F_has_bit, PySem.W.mg_of X G a_has_bit, k_has_bit, B_has_bit⟩
  have F__is_placed := fun_mk (st := s__is_placed) l__is_placed c__is_placed k__is_placed
  have B__is_placed := F__is_placed.binds (ps := ["world", "row", "above"]) fun _ _ _ _ _ _ us hl => match us, hl with | [_, _, _], _ => rfl
  have D__is_placed : CalN l.prog w K mg base "_is_placed" 2 ["world", "row", "above"] (sp__is_placed K) := ⟨_, _, ok__is_placed (P := l.prog) (w := w) (base := base) T D_has_bit F__is_placed, PySem.W.mg_of X G a__is_placed, k__is_placed, B__is_placed⟩
  have F_is_ascending := fun_mk (st := s_is_ascending) l_is_ascending c_is_ascending k_is_ascending
  have B_is_ascending := F_is_ascending.binds (ps := ["row"]) fun _ _ _ _ _ _ us hl => match us, hl with | [_], _ => rfl
  have D_is_ascending : CalN l.prog w K mg base "is_ascending" 1 ["row"] (sp_is_ascending K) := ⟨_, _, ok_is_ascending (P := l.prog) (w := w) (base := base) T F_is_ascending, PySem.W.mg_of X G a_is_ascending, k_is_ascending, B_is_ascending⟩
  have F_is_integer := fun_mk (st := s_is_integer) l_is_integer c_is_integer k_is_integer
  have B_is_integer := F_is_integer.binds (ps := ["value"]) fun _ _ _ _ _ _ us hl => match us, hl with | [_], _ => rfl
  have D_is_integer : CalN l.prog w K mg base "is_integer" 1 ["value"] (sp_is_integer K) := ⟨_, _, ok_is_integer (P := l.prog) (w := w) (base := base) T F_is_integer, PySem.W.mg_of X G a_is_integer, k_is_integer, B_is_integer⟩
  have F__is_row := fun_mk (st := s__is_row) l__is_row c__is_row k__is_row
  have B__is_row := F__is_row.binds (ps := ["row", "many"]) fun _ _ _ _ _ _ us hl => match us, hl with | [_, _], _ => rfl
  have D__is_row : CalN l.prog w K mg base "_is_row" 2 ["row", "many"] (sp__is_row K) := ⟨_, _, ok__is_row (P := l.prog) (w := w) (base := base) T D_is_ascending D_is_integer F__is_row, PySem.W.mg_of X G a__is_row, k__is_row, B__is_row⟩
  have F_is_order := fun_mk (st := s_is_order) l_is_order c_is_order k_is_order
  have B_is_order := F_is_order.binds (ps := ["reach", "limit"]) fun _ _ _ _ _ _ us hl => match us, hl with | [_, _], _ => rfl
  have D_is_order : CalN l.prog w K mg base "is_order" 3 ["reach", "limit"] (sp_is_order K) := ⟨_, _, ok_is_order (P := l.prog) (w := w) (base := base) T D_bits_of D__is_placed D__is_row F_is_order, PySem.W.mg_of X G a_is_order, k_is_order, B_is_order⟩
  have F_is_word := fun_mk (st := s_is_word) l_is_word c_is_word k_is_word
  have B_is_word := F_is_word.binds (ps := ["value"]) fun _ _ _ _ _ _ us hl => match us, hl with | [_], _ => rfl
  have D_is_word : CalN l.prog w K mg base "is_word" 1 ["value"] (sp_is_word K) := ⟨_, _, ok_is_word (P := l.prog) (w := w) (base := base) T F_is_word, PySem.W.mg_of X G a_is_word, k_is_word, B_is_word⟩
  have F__is_row_of_atoms := fun_mk (st := s__is_row_of_atoms) l__is_row_of_atoms c__is_row_of_atoms k__is_row_of_atoms
  have B__is_row_of_atoms := F__is_row_of_atoms.binds (ps := ["row"]) fun _ _ _ _ _ _ us hl => match us, hl with | [_], _ => rfl
  have D__is_row_of_atoms : CalN l.prog w K mg base "_is_row_of_atoms" 2 ["row"] (sp__is_row_of_atoms K) := ⟨_, _, ok__is_row_of_atoms (P := l.prog) (w := w) (base := base) T D_is_ascending D_is_word F__is_row_of_atoms, PySem.W.mg_of X G a__is_row_of_atoms, k__is_row_of_atoms, B__is_row_of_atoms⟩
  have F_are_truths := fun_mk (st := s_are_truths) l_are_truths c_are_truths k_are_truths
  have B_are_truths := F_are_truths.binds (ps := ["reach", "truths"]) fun _ _ _ _ _ _ us hl => match us, hl with | [_, _], _ => rfl
  have D_are_truths : CalN l.prog w K mg base "are_truths" 3 ["reach", "truths"] (sp_are_truths K) := ⟨_, _, ok_are_truths (P := l.prog) (w := w) (base := base) T D__is_row_of_atoms F_are_truths, PySem.W.mg_of X G a_are_truths, k_are_truths, B_are_truths⟩
  have F_Room___init__ := fun_mk (st := s_Room___init__) l_Room___init__ c_Room___init__ k_Room___init__
  have B_Room___init__ := F_Room___init__.binds (ps := ["self", "reach", "truths"]) fun _ _ _ _ _ _ us hl => match us, hl with | [_, _, _], _ => rfl
  have D_initX : MakX l.prog w K mg base C_Room 4 ["self", "reach", "truths"] (sp_Room_initX K C_Room C_InvalidRoom) := ⟨_,_, ok_Room_initX (P := l.prog) (w := w) (base := base) T e_InvalidRoom D_is_order D_are_truths D_bits_of F_Room___init__, ⟨mk_Room, a_Room___init__, i_Room___init__, kc_Room⟩, B_Room___init__⟩
  have D_Room___init__ := plain_make D_initX
  have F__law_made_room := fun_mk (st := s__law_made_room) l__law_made_room c__law_made_room k__law_made_room
  have B__law_made_room := F__law_made_room.binds (ps := ["_law_room_here"]) fun _ _ _ _ _ _ us hl => match us, hl with | [_], _ => rfl
  have D__law_made_room : Cal l.prog w K mg base "_law_made_room" 6 ["_law_room_here"] (sp__law_made_room K C_Room) := ⟨_, _, ok__law_made_room (P := l.prog) (w := w) (base := base) T D_Room___init__ F__law_made_room, PySem.W.mg_of X G a__law_made_room, k__law_made_room, B__law_made_room⟩
  have F_Room___len__ := fun_mk (st := s_Room___len__) l_Room___len__ c_Room___len__ k_Room___len__
  have B_Room___len__ := F_Room___len__.binds (ps := ["self"]) fun _ _ _ _ _ _ us hl => match us, hl with | [_], _ => rfl
  have D_Room___len__ : MetC l.prog w K mg base C_Room "__len__" 1 ["self"] (sp_Room___len__ K C_Room) := ⟨_, _, ok_Room___len__ (P := l.prog) (w := w) (base := base) T F_Room___len__, ⟨a_Room___len__, i_Room___len__, k_Room___len__⟩, B_Room___len__⟩
  have F__law_is_made := fun_mk (st := s__law_is_made) l__law_is_made c__law_is_made k__law_is_made
  have B__law_is_made := F__law_is_made.binds (ps := ["_law_reach", "_law_truths"]) fun _ _ _ _ _ _ us hl => match us, hl with | [_, _], _ => rfl
  have D__law_is_made : Cal l.prog w K mg base "_law_is_made" 6 ["_law_reach", "_law_truths"] (sp__law_is_made K) := ⟨_, _, ok__law_is_made (P := l.prog) (w := w) (base := base) T e_InvalidRoom D_Room___len__ D_initX F__law_is_made, PySem.W.mg_of X G a__law_is_made, k__law_is_made, B__law_is_made⟩
  have F__law_is_room := fun_mk (st := s__law_is_room) l__law_is_room c__law_is_room k__law_is_room
  have B__law_is_room := F__law_is_room.binds (ps := ["_law_reach", "_law_truths"]) fun _ _ _ _ _ _ us hl => match us, hl with | [_, _], _ => rfl
  have D__law_is_room : Cal l.prog w K mg base "_law_is_room" 1 ["_law_reach", "_law_truths"] (sp__law_is_room K) := ⟨_, _, ok__law_is_room (P := l.prog) (w := w) (base := base) T F__law_is_room, PySem.W.mg_of X G a__law_is_room, k__law_is_room, B__law_is_room⟩
  have F_Room_atoms := fun_mk (st := s_Room_atoms) l_Room_atoms c_Room_atoms k_Room_atoms
  have B_Room_atoms := F_Room_atoms.binds (ps := ["self"]) fun _ _ _ _ _ _ us hl => match us, hl with | [_], _ => rfl
  have D_Room_atoms : PrpC l.prog w K mg base C_Room "atoms" 1 ["self"] (sp_Room_atoms K C_Room) := ⟨_, _, _, ok_Room_atoms (P := l.prog) (w := w) (base := base) T F_Room_atoms, ⟨a_Room_atoms, g_Room_atoms, t_Room_atoms, _, r_Room_atoms⟩, B_Room_atoms⟩
  have F_Room_reach := fun_mk (st := s_Room_reach) l_Room_reach c_Room_reach k_Room_reach
  have B_Room_reach := F_Room_reach.binds (ps := ["self"]) fun _ _ _ _ _ _ us hl => match us, hl with | [_], _ => rfl
  have D_Room_reach : PrpC l.prog w K mg base C_Room "reach" 1 ["self"] (getSp C_Room "_reach") := ⟨_, _, _, F_Room_reach.getter sc_Room_reach k_Room x_Room.n_reach, ⟨a_Room_reach, g_Room_reach, t_Room_reach, _, r_Room_reach⟩, B_Room_reach⟩
  have F_Room_truths := fun_mk (st := s_Room_truths) l_Room_truths c_Room_truths k_Room_truths
  have B_Room_truths := F_Room_truths.binds (ps := ["self"]) fun _ _ _ _ _ _ us hl => match us, hl with | [_], _ => rfl
  have D_Room_truths : PrpC l.prog w K mg base C_Room "truths" 1 ["self"] (getSp C_Room "_truths") := ⟨_, _, _, F_Room_truths.getter sc_Room_truths k_Room x_Room.n_truths, ⟨a_Room_truths, g_Room_truths, t_Room_truths, _, r_Room_truths⟩, B_Room_truths⟩
  have F_Room___getitem__ := fun_mk (st := s_Room___getitem__) l_Room___getitem__ c_Room___getitem__ k_Room___getitem__
  have B_Room___getitem__ := F_Room___getitem__.binds (ps := ["self", "at"]) fun _ _ _ _ _ _ us hl => match us, hl with | [_, _], _ => rfl
  have D_Room___getitem__ : MetC l.prog w K mg base C_Room "__getitem__" 2 ["self", "at"] (sp_Room___getitem__ K C_Room) := ⟨_, _, ok_Room___getitem__ (P := l.prog) (w := w) (base := base) T D_is_integer F_Room___getitem__, ⟨a_Room___getitem__, i_Room___getitem__, k_Room___getitem__⟩, B_Room___getitem__⟩
  have F_Room___str__ := fun_mk (st := s_Room___str__) l_Room___str__ c_Room___str__ k_Room___str__
  have B_Room___str__ := F_Room___str__.binds (ps := ["self"]) fun _ _ _ _ _ _ us hl => match us, hl with | [_], _ => rfl
  have D_Room___str__ : MetC l.prog w K mg base C_Room "__str__" 3 ["self"] (sp_Room___str__ K C_Room) := ⟨_, _, ok_Room___str__ (P := l.prog) (w := w) (base := base) T D_Room_atoms F_Room___str__, ⟨a_Room___str__, i_Room___str__, k_Room___str__⟩, B_Room___str__⟩
  have F__law_told_right := fun_mk (st := s__law_told_right) l__law_told_right c__law_told_right k__law_told_right
  have B__law_told_right := F__law_told_right.binds (ps := ["_law_room_here"]) fun _ _ _ _ _ _ us hl => match us, hl with | [_], _ => rfl
  have D__law_told_right : Cal l.prog w K mg base "_law_told_right" 7 ["_law_room_here"] (sp__law_told_right K) := ⟨_, _, ok__law_told_right (P := l.prog) (w := w) (base := base) T D__law_made_room D_Room_atoms D_Room_reach D_Room_truths D_Room___len__ D_Room___getitem__ D_Room___str__ F__law_told_right, PySem.W.mg_of X G a__law_told_right, k__law_told_right, B__law_told_right⟩
  have F_Room___eq__ := fun_mk (st := s_Room___eq__) l_Room___eq__ c_Room___eq__ k_Room___eq__
  have B_Room___eq__ := F_Room___eq__.binds (ps := ["self", "other"]) fun _ _ _ _ _ _ us hl => match us, hl with | [_, _], _ => rfl
  have D_Room___eq__ : MetC l.prog w K mg base C_Room "__eq__" 1 ["self", "other"] (sp_Room___eq__ K C_Room) := ⟨_, _, ok_Room___eq__ (P := l.prog) (w := w) (base := base) T F_Room___eq__, ⟨a_Room___eq__, i_Room___eq__, k_Room___eq__⟩, B_Room___eq__⟩
  have F__law_right := fun_mk (st := s__law_right) l__law_right c__law_right k__law_right
  have B__law_right := F__law_right.binds (ps := ["_law_dice_here"]) fun _ _ _ _ _ _ us hl => match us, hl with | [_], _ => rfl
  have D__law_right : Cal l.prog w K mg base "_law_right" 8 ["_law_dice_here"] (sp__law_right K) := ⟨_, _, ok__law_right (P := l.prog) (w := w) (base := base) T D__law_room D__law_pick D__law_bent D__law_made_room D__law_is_made D__law_is_room D__law_told_right D_Room_reach D_Room_truths D_Room___init__ D_Room___eq__ D_Room___len__ F__law_right, PySem.W.mg_of X G a__law_right, k__law_right, B__law_right⟩
  have F__law_dice := fun_mk (st := s__law_dice) l__law_dice c__law_dice k__law_dice
  have B__law_dice := F__law_dice.binds (ps := ["_law_script", "_law_spot"]) fun _ _ _ _ _ _ us hl => match us, hl with | [_, _], _ => rfl
  have D__law_dice : Cal l.prog w K mg base "_law_dice" 1 ["_law_script", "_law_spot"] (sp__law_dice K) := ⟨_, _, ok__law_dice (P := l.prog) (w := w) (base := base) T F__law_dice, PySem.W.mg_of X G a__law_dice, k__law_dice, B__law_dice⟩
  have F_law := fun_mk (st := s_law) l_law c_law k_law
  exact ok_law (P := l.prog) (w := w) (base := base) T D__law_right D__law_dice F_law
end My

open PySem PySem.W PyProof.Rows in
set_option maxRecDepth 100000 in
set_option maxHeartbeats 0 in
theorem PySem.Challenge.cw_fromparts_k30_rooms_judged_holds : PySem.Challenge.rw_fromparts_k30_rooms_judged.Holds := by
  w_on; o_law; k_head; (case hw => w_witness2)
  k_fill
  refine My.walk_ofG (l := PySem.Challenge.rw_fromparts_k30_rooms_judged) (k := 9) (x := "_law_script") (sp := My.sp_law) rfl rfl ⟨rfl, by decide, by decide⟩ (fun w h Y => PySem.W.kIn_of Y) ?F (fun _ _ a ns hl hS => ⟨a, ns, rfl, hS, hl, fun _ => rfl⟩)
  case F =>
    intro w mg fa h KX G hmg
    refine' My.all_mk KX G hmg ?aC_Room ?pg_Room ?hd_Room ?po_Room ?sa_Room ?mk_Room ?kc_Room ?n_reach_Room ?n_truths_Room ?n_rows_Room ?n_above_Room ?fst_Room ?nfs_Room ?ni_tuple_Room ?tyt_Room ?od_NoneType_Room ?nf_NoneType_Room ?od_int_Room ?nf_int_Room ?od_str_Room ?nf_str_Room ?od_tuple_Room ?nf_tuple_Room ?od_list_Room ?nf_list_Room ?od_dict_Room ?nf_dict_Room ?ne_Room ?un_Room ?cl1_Room ?cl2_Room ?cl3_Room ?cl4_Room ?a__law_room_turned ?l__law_room_turned ?c__law_room_turned ?k__law_room_turned ?a__law_roll ?l__law_roll ?c__law_roll ?k__law_roll ?a__law_some ?l__law_some ?c__law_some ?k__law_some ?a__law_room ?l__law_room ?c__law_room ?k__law_room ?a__law_pick ?l__law_pick ?c__law_pick ?k__law_pick ?a__law_bent ?l__law_bent ?c__law_bent ?k__law_bent ?a_bits_of ?l_bits_of ?c_bits_of ?k_bits_of ?a_has_bit ?l_has_bit ?c_has_bit ?k_has_bit ?a__is_placed ?l__is_placed ?c__is_placed ?k__is_placed ?a_is_ascending ?l_is_ascending ?c_is_ascending ?k_is_ascending ?a_is_integer ?l_is_integer ?c_is_integer ?k_is_integer ?a__is_row ?l__is_row ?c__is_row ?k__is_row ?a_is_order ?l_is_order ?c_is_order ?k_is_order ?a_is_word ?l_is_word ?c_is_word ?k_is_word ?a__is_row_of_atoms ?l__is_row_of_atoms ?c__is_row_of_atoms ?k__is_row_of_atoms ?a_are_truths ?l_are_truths ?c_are_truths ?k_are_truths ?a_Room___init__ ?i_Room___init__ ?l_Room___init__ ?c_Room___init__ ?k_Room___init__ ?a__law_made_room ?l__law_made_room ?c__law_made_room ?k__law_made_room ?a_Room___len__ ?i_Room___len__ ?l_Room___len__ ?c_Room___len__ ?k_Room___len__ ?a__law_is_made ?l__law_is_made ?c__law_is_made ?k__law_is_made ?a__law_is_room ?l__law_is_room ?c__law_is_room ?k__law_is_room ?a_Room_atoms ?g_Room_atoms ?t_Room_atoms ?r_Room_atoms ?l_Room_atoms ?c_Room_atoms ?k_Room_atoms ?a_Room_reach ?g_Room_reach ?t_Room_reach ?r_Room_reach ?l_Room_reach ?c_Room_reach ?k_Room_reach ?a_Room_truths ?g_Room_truths ?t_Room_truths ?r_Room_truths ?l_Room_truths ?c_Room_truths ?k_Room_truths ?a_Room___getitem__ ?i_Room___getitem__ ?fi_Room___getitem__ ?l_Room___getitem__ ?c_Room___getitem__ ?k_Room___getitem__ ?a_Room___str__ ?i_Room___str__ ?l_Room___str__ ?c_Room___str__ ?k_Room___str__ ?a__law_told_right ?l__law_told_right ?c__law_told_right ?k__law_told_right ?a_Room___eq__ ?i_Room___eq__ ?l_Room___eq__ ?c_Room___eq__ ?k_Room___eq__ ?a__law_right ?l__law_right ?c__law_right ?k__law_right ?a__law_dice ?l__law_dice ?c__law_dice ?k__law_dice ?a_law ?l_law ?c_law ?k_law ?z_RuntimeError ?z_ValueError ?z_abs ?z_all ?z_any ?z_bool ?z_dict ?z_enumerate ?z_int ?z_isinstance ?z_iter ?z_len ?z_list ?z_max ?z_min ?z_property ?z_range ?z_set ?z_sorted ?z_str ?z_sum ?z_tuple ?z_zip ?g_MAX_LETTERS ?g_MAX_WORLDS ?ea_InvalidRoom ?ex_InvalidRoom ?ek_InvalidRoom ?eb_InvalidRoom ?et_InvalidRoom
    (case aC_Room => k_is)
    (case pg_Room => k_is)
    (case hd_Room => k_is)
    (case po_Room => k_is)
    (case sa_Room => k_is)
    (case mk_Room => k_is)
    (case kc_Room => k_is)
    (case n_reach_Room => k_is)
    (case n_truths_Room => k_is)
    (case n_rows_Room => k_is)
    (case n_above_Room => k_is)
    (case fst_Room => k_is)
    (case nfs_Room => k_is)
    (case ni_tuple_Room => k_is)
    (case tyt_Room => k_is)
    (case od_NoneType_Room => k_is)
    (case nf_NoneType_Room => k_is)
    (case od_int_Room => k_is)
    (case nf_int_Room => k_is)
    (case od_str_Room => k_is)
    (case nf_str_Room => k_is)
    (case od_tuple_Room => k_is)
    (case nf_tuple_Room => k_is)
    (case od_list_Room => k_is)
    (case nf_list_Room => k_is)
    (case od_dict_Room => k_is)
    (case nf_dict_Room => k_is)
    (case ne_Room => k_is)
    (case un_Room => k_is)
    (case cl1_Room => k_is)
    (case cl2_Room => k_is)
    (case cl3_Room => k_is)
    (case cl4_Room => k_is)
    (case a__law_room_turned => k_is)
    (case l__law_room_turned => k_is)
    (case c__law_room_turned => k_is)
    (case k__law_room_turned => k_is)
    (case a__law_roll => k_is)
    (case l__law_roll => k_is)
    (case c__law_roll => k_is)
    (case k__law_roll => k_is)
    (case a__law_some => k_is)
    (case l__law_some => k_is)
    (case c__law_some => k_is)
    (case k__law_some => k_is)
    (case a__law_room => k_is)
    (case l__law_room => k_is)
    (case c__law_room => k_is)
    (case k__law_room => k_is)
    (case a__law_pick => k_is)
    (case l__law_pick => k_is)
    (case c__law_pick => k_is)
    (case k__law_pick => k_is)
    (case a__law_bent => k_is)
    (case l__law_bent => k_is)
    (case c__law_bent => k_is)
    (case k__law_bent => k_is)
    (case a_bits_of => k_is)
    (case l_bits_of => k_is)
    (case c_bits_of => k_is)
    (case k_bits_of => k_is)
    (case a_has_bit => k_is)
    (case l_has_bit => k_is)
    (case c_has_bit => k_is)
    (case k_has_bit => k_is)
    (case a__is_placed => k_is)
    (case l__is_placed => k_is)
    (case c__is_placed => k_is)
    (case k__is_placed => k_is)
    (case a_is_ascending => k_is)
    (case l_is_ascending => k_is)
    (case c_is_ascending => k_is)
    (case k_is_ascending => k_is)
    (case a_is_integer => k_is)
    (case l_is_integer => k_is)
    (case c_is_integer => k_is)
    (case k_is_integer => k_is)
    (case a__is_row => k_is)
    (case l__is_row => k_is)
    (case c__is_row => k_is)
    (case k__is_row => k_is)
    (case a_is_order => k_is)
    (case l_is_order => k_is)
    (case c_is_order => k_is)
    (case k_is_order => k_is)
    (case a_is_word => k_is)
    (case l_is_word => k_is)
    (case c_is_word => k_is)
    (case k_is_word => k_is)
    (case a__is_row_of_atoms => k_is)
    (case l__is_row_of_atoms => k_is)
    (case c__is_row_of_atoms => k_is)
    (case k__is_row_of_atoms => k_is)
    (case a_are_truths => k_is)
    (case l_are_truths => k_is)
    (case c_are_truths => k_is)
    (case k_are_truths => k_is)
    (case a_Room___init__ => k_is)
    (case i_Room___init__ => k_is)
    (case l_Room___init__ => k_is)
    (case c_Room___init__ => k_is)
    (case k_Room___init__ => k_is)
    (case a__law_made_room => k_is)
    (case l__law_made_room => k_is)
    (case c__law_made_room => k_is)
    (case k__law_made_room => k_is)
    (case a_Room___len__ => k_is)
    (case i_Room___len__ => k_is)
    (case l_Room___len__ => k_is)
    (case c_Room___len__ => k_is)
    (case k_Room___len__ => k_is)
    (case a__law_is_made => k_is)
    (case l__law_is_made => k_is)
    (case c__law_is_made => k_is)
    (case k__law_is_made => k_is)
    (case a__law_is_room => k_is)
    (case l__law_is_room => k_is)
    (case c__law_is_room => k_is)
    (case k__law_is_room => k_is)
    (case a_Room_atoms => k_is)
    (case g_Room_atoms => k_is)
    (case t_Room_atoms => k_is)
    (case r_Room_atoms => k_is)
    (case l_Room_atoms => k_is)
    (case c_Room_atoms => k_is)
    (case k_Room_atoms => k_is)
    (case a_Room_reach => k_is)
    (case g_Room_reach => k_is)
    (case t_Room_reach => k_is)
    (case r_Room_reach => k_is)
    (case l_Room_reach => k_is)
    (case c_Room_reach => k_is)
    (case k_Room_reach => k_is)
    (case a_Room_truths => k_is)
    (case g_Room_truths => k_is)
    (case t_Room_truths => k_is)
    (case r_Room_truths => k_is)
    (case l_Room_truths => k_is)
    (case c_Room_truths => k_is)
    (case k_Room_truths => k_is)
    (case a_Room___getitem__ => k_is)
    (case i_Room___getitem__ => k_is)
    (case fi_Room___getitem__ => k_is)
    (case l_Room___getitem__ => k_is)
    (case c_Room___getitem__ => k_is)
    (case k_Room___getitem__ => k_is)
    (case a_Room___str__ => k_is)
    (case i_Room___str__ => k_is)
    (case l_Room___str__ => k_is)
    (case c_Room___str__ => k_is)
    (case k_Room___str__ => k_is)
    (case a__law_told_right => k_is)
    (case l__law_told_right => k_is)
    (case c__law_told_right => k_is)
    (case k__law_told_right => k_is)
    (case a_Room___eq__ => k_is)
    (case i_Room___eq__ => k_is)
    (case l_Room___eq__ => k_is)
    (case c_Room___eq__ => k_is)
    (case k_Room___eq__ => k_is)
    (case a__law_right => k_is)
    (case l__law_right => k_is)
    (case c__law_right => k_is)
    (case k__law_right => k_is)
    (case a__law_dice => k_is)
    (case l__law_dice => k_is)
    (case c__law_dice => k_is)
    (case k__law_dice => k_is)
    (case a_law => k_is)
    (case l_law => k_is)
    (case c_law => k_is)
    (case k_law => k_is)
    (case z_RuntimeError => k_is)
    (case z_ValueError => k_is)
    (case z_abs => k_is)
    (case z_all => k_is)
    (case z_any => k_is)
    (case z_bool => k_is)
    (case z_dict => k_is)
    (case z_enumerate => k_is)
    (case z_int => k_is)
    (case z_isinstance => k_is)
    (case z_iter => k_is)
    (case z_len => k_is)
    (case z_list => k_is)
    (case z_max => k_is)
    (case z_min => k_is)
    (case z_property => k_is)
    (case z_range => k_is)
    (case z_set => k_is)
    (case z_sorted => k_is)
    (case z_str => k_is)
    (case z_sum => k_is)
    (case z_tuple => k_is)
    (case z_zip => k_is)
    (case g_MAX_LETTERS => k_is)
    (case g_MAX_WORLDS => k_is)
    (case ea_InvalidRoom => k_is)
    (case ex_InvalidRoom => kernel_rfl)
    (case ek_InvalidRoom => k_is)
    (case eb_InvalidRoom => k_is)
    (case et_InvalidRoom => k_is)
