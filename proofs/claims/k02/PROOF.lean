import PyProof.Rows.All
import Wide.All
import OpenK.AllK
import Wide.FinOn
import PyProof.ReprRoads
import PyProof.ReprLen
import HandS.ForMost
import HandS.Wide
import HandS.IsInst
import HandS.Walk
import HandS.Zip
import HandS.TupAny
import HandS.TupMul
import HandS.SortInts
import HandS.Flow
import HandS.Evl
import KE.GoesEnum
import KE.GoesMore
import KE.GoesZip
import PySem.Challenge.RW_straylanes_k02_whole_rests_of_numbers
set_option Elab.async false
set_option linter.all false
set_option maxRecDepth 100000
/-! The layer below: defs whose call knows that no repr is under way, repr of data, calls by keywords alone, rules of either kind. -/
namespace Sx
open PySem PySem.Spec PyProof.Rows L2

/-! ### a def that shows data: called where no repr is under way -/
structure FnG (P : Program) (w : World) (K : PySem.W.Frag) (mg : Str → Option Value) (B : Heap) (CX : CXT) (n : Nat) (f : Addr) (fd : FuncData) (ps : List Str) (sp : Sp) : Prop where
  lenG : ∀ vs H Q E, sp vs H Q E → vs.length = ps.length
  runG : ∀ (A : Around) (out : List Env) (s : Shared) (H : Hp) (as : Args) (us : List Value) (vs : List V) (Q : VK) (E : XK), A.guards = some [] → Room n A →
    Env0 P w K mg B A out s H → BindsTo s fd as (ps.zip us) → Vals vs us → sp vs H Q E → codeAny (model P w) A (.call (.ref f) as) (CR CX out P w H s Q E) s

section
variable {P : Program} {w : World} {K : PySem.W.Frag} {mg : Str → Option Value} {B : Heap} {CX : CXT}
theorem FnG.up {n m : Nat} {f : Addr} {fd : FuncData} {ps : List Str} {sp : Sp} (F : FnG P w K mg B CX n f fd ps sp) (h : n ≤ m) : FnG P w K mg B CX m f fd ps sp :=
  ⟨F.lenG, fun A out s H as us vs Q E hg hr => F.runG A out s H as us vs Q E hg (hr.mono h)⟩
/-- from the body, for a def that may raise -/
theorem okGX {x qual : Str} {st : Stmt} {f : Addr} {fd : FuncData} {N ps : List Str} {n : Nat} {sp : Sp} (F : Fun K x qual st f fd) (S : FnScope N ps (defScope st)) (hlen : ∀ vs H Q E, sp vs H Q E → vs.length = ps.length)
    (body : ∀ (cd : Value) (A : Around) (out : List Env) (s : Shared) (H : Hp) (vs : List V) (Q : VK) (E : XK), A.guards = some [] → Room n (A.deeper (envOfC qual (defScope st) s.heap.objs.size f cd)) → sp vs H Q E →
      ∃ t, PSs (cxOf CX P w K mg B N qual (defScope st) f cd A out s H E) (defBody st) t ∧ t { nx := fun _ H1 => Q .non H1, rt := Q } (start N vs) H) : FnG P w K mg B CX (n + 1) f fd ps sp := by
  obtain ⟨oc, od, kV, doc, pm, an, cd, ct, osl, rfl, lk, hcd⟩ := F.ex
  refine ⟨hlen, ?_⟩
  intro A out s H as us vs Q E hg hr e0 hb rel hsp
  have hl := hlen vs H Q E hsp
  have kin : K.In s.heap := e0.mod.kin.keeps (fun b o e => (e0.bs b o e).1)
  have nol : s.heap.NoLimit := e0.mod.nolimit.keeps (fun b o e => (e0.bs b o e).1)
  refine codeAny_call_function hr.depth (kin _ _ lk) rfl S.co S.gen rfl (PySem.W.codeRec_of kin hcd)
    (hb _ _ _ _ ?_)
  refine wpAny_newFunctionEnv_cells S.kind (fun y hy => (S.par y.1 (List.of_mem_zip (a := y.1) (b := y.2) hy).1).elim (fun q => Or.inl q) fun q => Or.inr ⟨q, PySem.W.cellsFrom_some _ _ _ (Or.inl q)⟩) ?_
  intro env he s1 x
  subst he
  refine ⟨nol.keeps x.toInCall.keep, codeAny_func ?_⟩
  obtain ⟨t, ht, hq⟩ := body cd A out s H vs Q E hg (hr.deeper _) hsp
  have I := inv_start (CX := CX) (E := E) S hr.hd e0 hl rel x
  refine wpAny_mono (ht.run [] s1 (start N vs) H _ I hq) ?_ (fun _ _ z => z)
  intro fl s' hs
  cases fl with
  | ret u =>
    obtain ⟨v, σ1, H1, J, rv, q⟩ := hs
    exact (show CE out P w H s Q u s' from ⟨v, H1, J.os, J.bare, J.base, J.hok, rv, q⟩)
  | next =>
    obtain ⟨σ1, H1, J, q⟩ := hs
    exact (show CE out P w H s Q Value.none s' from ⟨V.non, H1, J.os, J.bare, J.base, J.hok, rfl, q⟩)
  | brk =>
    obtain ⟨_, _, _, q⟩ := hs
    exact q.elim
  | cont =>
    obtain ⟨_, _, _, q⟩ := hs
    exact q.elim
theorem okG {x qual : Str} {st : Stmt} {f : Addr} {fd : FuncData} {N ps : List Str} {n : Nat} {sp : Sp} (F : Fun K x qual st f fd) (S : FnScope N ps (defScope st)) (hlen : ∀ vs H Q E, sp vs H Q E → vs.length = ps.length)
    (body : ∀ (cd : Value) (A : Around) (out : List Env) (s : Shared) (H : Hp) (vs : List V) (Q : VK) (E : XK), A.guards = some [] → Room n (A.deeper (envOfC qual (defScope st) s.heap.objs.size f cd)) → sp vs H Q E →
      ∃ t, PSs (cxOf CX0 P w K mg B N qual (defScope st) f cd A out s H E).nox (defBody st) t ∧ t { nx := fun _ H1 => Q .non H1, rt := Q } (start N vs) H) : FnG P w K mg B CX0 (n + 1) f fd ps sp :=
  okGX F S hlen fun cd A out s H vs Q E hg hr hsp => let ⟨t, h, q⟩ := body cd A out s H vs Q E hg hr hsp; ⟨t, h.nox, q⟩
end

section
variable {X : Cx} {CX : CXT} {n : Nat} {f : Addr} {fd : FuncData} {ps : List Str} {sp : Sp} {dvs : List V} {ds : List Value} {E : XK} {x : Str} {p pos : Pos} {e : Expr} {es : List Expr} {t : TA}
theorem run_fnG {pins : List (Addr × Obj)} {σ : L2.St} {H : Hp} {s : Shared} {Q : VK} {us : List Value} {vs : List V} (hg : X.A.guards = some []) (F : FnG X.prog X.w X.K X.mg X.base CX n f fd ps sp) (hr : Room n X.A) (hb : Binds X.K fd ps [])
    (hx : Passes CX X E) (I : Inv X pins σ H s) (r : Vals vs us) (h : sp vs H Q E) : wpAny (model X.prog X.w) X.A (call (.ref f) us) (EP X pins σ Q) X.xe s := by
  have hl : (us ++ []).length = ps.length := by
    rw [List.append_nil, ← r.length]
    exact F.lenG _ _ _ _ h
  have bb := hb s us I.kIn hl
  rw [List.append_nil] at bb
  refine wpAny_call (codeAny_mono (F.runG X.A X.stack s H ⟨us, []⟩ us vs Q E hg hr I.env0 bb r h) ?_)
  intro res s' hq
  match res, hq with
  | .error e, hq => exact hx pins σ H s e s' I hq
  | .ok (.ret u), hq => exact I.after hq
  | .ok .next, hq => exact False.elim hq
  | .ok .brk, hq => exact False.elim hq
  | .ok .cont, hq => exact False.elim hq
theorem pe_callG (hg : X.A.guards = some []) (F : FnG X.prog X.w X.K X.mg X.base CX n f fd ps sp) (hr : Room n X.A) (hgl : Gl X x) (hm : X.mg x = some (.ref f)) (hk : PySem.W.keepIn X.K (.ref f) = true) (hb : Binds X.K fd ps [])
    (hx : Passes CX X E) (ha : PA X (e :: es) t) (hdb : (x == ("__debug__" : Str)) = false := by decide) (he : starEach (e :: es) X.env = (false, eval e X.env) :: starEach es X.env := by rfl)
    (hpl : (backTo pos (starEach es X.env)).any (·.1) = false := by rfl) : PE X (.Call (.Name x p) (e :: es) [] pos) (tCall sp [] E t) := by
  refine ⟨fun pins s σ H Q I h => wpAny_Call_Name_kw (ld_glob I hgl hm ?_ hdb)⟩
  refine PySem.W.callWith_K (h₀ := X.base) I.ok.mod.kin hk (thn (ha.run pos pins s σ H _ I h) ?_) he hpl
  rintro us s1 ⟨vs, H1, I1, r, q⟩
  have q' : sp (vs ++ []) H1 Q E := q
  rw [List.append_nil] at q'
  exact ⟨I1.kIn, run_fnG hg F hr hb hx I1 r q'⟩
/-- f(k = v, ..), no positional argument -/
theorem pe_callKs {ks : List Str} {kws : List Keyword} {tk : TA} {g : List Value → List Value → List Value} {gV : List V → List V → List V} (F : FnOk X.prog X.w X.K X.mg X.base CX n f fd ps sp) (hr : Room n X.A) (hgl : Gl X x) (hm : X.mg x = some (.ref f))
    (hk : PySem.W.keepIn X.K (.ref f) = true) (hb : KBinds X.K fd ps ks g gV) (hx : Passes CX X E) (hkw : PK X kws tk) (hall : (backToKw pos (keywordEach kws X.env)).all (·.1.isSome) = true := by rfl)
    (hks : (backToKw pos (keywordEach kws X.env)).filterMap (·.1) = ks := by rfl) (hdb : (x == ("__debug__" : Str)) = false := by decide)
    (hpl : ((backTo pos (starEach [] X.env)).any (·.1) || (backToKw pos (keywordEach kws X.env)).any (·.1.isNone)) = false := by rfl) : PE X (.Call (.Name x p) [] kws pos) (tCallK sp gV E tNil tk) := by
  refine ⟨fun pins s σ H Q I h => wpAny_Call_Name_kw (ld_glob I hgl hm ?_ hdb)⟩
  refine PySem.W.callWith_KW0 (h₀ := X.base) I.ok.mod.kin hk hall (thn (hkw.run pos pins s σ H _ I h) ?_) hpl
  rintro ws s2 ⟨zs, H2, I2, rz, q2⟩
  refine ⟨I2.kIn, ?_⟩
  rw [hks]
  exact run_fnk (us := []) (vs := []) F hr hb hx I2 .nil rz q2
end

/-! ### how keywords bind, by the parameters' names alone -/
theorem Fun.kb {K : PySem.W.Frag} {x qual : Str} {st : Stmt} {f : Addr} {fd : FuncData} {ps ks : List Str} {g : List Value → List Value → List Value} {gV : List V → List V → List V} (F : Fun K x qual st f fd)
    (h : ∀ (kV doc pm : Value) (an : Option Addr) (cd ct : Value) (us ws : List Value), (g us ws).length = ps.length → bindArgs (PySem.W.fnOf x qual (defArgs st) (defBody st) (defScope st) .none kV doc pm an cd ct) ⟨us, ks.zip ws⟩ = pure (ps.zip (g us ws)))
    (rel : ∀ {vs : List V} {us : List Value} {zs : List V} {ws : List Value}, Vals vs us → Vals zs ws → Vals (gV vs zs) (g us ws)) : KBinds K fd ps ks g gV := by
  obtain ⟨oc, od, kV, doc, pm, an, cd, ct, osl, rfl, lk, hcd⟩ := F.ex
  exact ⟨fun s us ws _ hl => .of_eq (h kV doc pm an cd ct us ws hl), rel⟩

/-! ### repr of data -/
mutual
theorem dp_plain {K : PySem.W.Frag} {H : Hp} : ∀ (d : PyData) (v : V), Dp K H v d → d.hasDict = false
  | .none, _, _ => by simp only [PyData.hasDict]
  | .bool _, _, _ => by simp only [PyData.hasDict]
  | .int _, _, _ => by simp only [PyData.hasDict]
  | .str _, _, _ => by simp only [PyData.hasDict]
  | .list ds, _, h => by
    cases h with
    | lst _ ha =>
      simp only [PyData.hasDict]
      exact dp_plainAll ds _ ha
  | .tuple ds, _, h => by
    cases h with
    | tup _ ha =>
      simp only [PyData.hasDict]
      exact dp_plainAll ds _ ha
  | .dict _, _, h => by cases h
theorem dp_plainAll {K : PySem.W.Frag} {H : Hp} : ∀ (ds : List PyData) (vs : List V), DpAll K H vs ds → PyData.hasDictAll ds = false
  | [], _, _ => by simp only [PyData.hasDictAll]
  | d :: ds, _, h => by
    cases h with
    | cons h1 h2 =>
      simp only [PyData.hasDictAll, dp_plain d _ h1, dp_plainAll ds _ h2, Bool.or_self]
end
/-- what may be shown -/
structure Shows (d : PyData) : Prop where
  ok : d.showable = true
  sz : d.shown.length ≤ sizeLine
  dp : d.depth ≤ 60
def rShow (K : PySem.W.Frag) : List V → Hp → VK → Prop := fun xs H Q => ∃ v d, xs = [v] ∧ Dp K H v d ∧ Shows d ∧ Q (.str d.shown) H
theorem call_show {X : Cx} (hg : X.A.guards = some []) (hu : X.A.units + 64 < cLine) : CallR X (.builtin "repr") (rShow X.K) := by
  intro pins s σ H xs us Q I r h
  obtain ⟨v, d, rfl, hd, S, q⟩ := h
  obtain ⟨u, rfl, r1⟩ := vals1 r
  have q0 : (PyData.shown d) = d.shown := rfl
  cases hd with
  | non =>
    obtain rfl : u = Value.none := r1
    simp only [PyData.shown] at q
    exact PySem.P.repr_of_none ⟨.str _, H, I.tok _, ⟨_, rfl⟩, q⟩
  | bl b =>
    obtain rfl : u = Value.bool b := r1
    simp only [PyData.shown] at q
    exact PySem.P.repr_of_bool ⟨.str _, H, I.tok _, ⟨_, rfl⟩, by cases b <;> exact q⟩
  | int i =>
    obtain ⟨t, rfl⟩ := r1
    have hs := S.ok
    simp only [PyData.shown] at q
    exact PySem.P.repr_of_int (by simpa [PyData.showable] using hs) ⟨.str _, H, I.tok _, ⟨_, rfl⟩, q⟩
  | str y =>
    obtain ⟨t, rfl⟩ := r1
    have hz := S.sz
    simp only [PyData.shown] at q hz
    exact PySem.P.repr_of_str ⟨.str _, H, I.tok _, ⟨_, rfl⟩, q⟩ hz
  | @lst a ys ds h1 h2 =>
    obtain rfl : u = Value.ref a := r1
    have hp := dp_plain _ _ (Dp.lst h1 h2)
    obtain ⟨as, rd⟩ := Dp.reads I _ (V.ref a) (Value.ref a) (Dp.lst h1 h2) rfl
    exact repr_of_reads' rd S.ok (PyData.noDict_hsm hp) hg (by have := S.dp; omega) (fun _ _ e => e) (fun h' tu tk hk => ⟨.str _, H, I.kept hk, ⟨_, rfl⟩, q⟩) S.sz
  | @tup a ys ds h1 h2 =>
    obtain rfl : u = Value.ref a := r1
    have hp := dp_plain _ _ (Dp.tup h1 h2)
    obtain ⟨as, rd⟩ := Dp.reads I _ (V.ref a) (Value.ref a) (Dp.tup h1 h2) rfl
    exact repr_of_reads' rd S.ok (PyData.noDict_hsm hp) hg (by have := S.dp; omega) (fun _ _ e => e) (fun h' tu tk hk => ⟨.str _, H, I.kept hk, ⟨_, rfl⟩, q⟩) S.sz
end Sx
namespace Sx
open PySem PySem.Spec PyProof.Rows L2

/-! ### the law's end, for a law that shows data -/
section
variable {P : Program} {w : World} {K : PySem.W.Frag} {mg mb : Str → Option Value} {n : Nat} {fa a : Addr} {fd : FuncData} {x : Str} {sp : Sp} {s : Shared} {us : List Value} {ns : List Int}
abbrev Good (s : Shared) : Result → Shared → Prop := fun r s' => r = .ok (.ret (.bool true)) ∧ OldK s.heap s'.heap ∧ s'.os = s.os ∧ AllBare s'.gens
/-- from an abstract heap in which the script alone may stand -/
theorem law_from (kin : K.In s.heap) (hns : s.heap.Ns mainGlobals mg) (hb : s.heap.Ns builtinsNs mb) (hbb : ∀ x : Str, x ≠ "__name__" → mb x = bootBuiltins x) (hlim : s.heap.NoLimit) (hgens : s.gens = #[])
    (ha : s.heap.get? a = some { cls := .type "list", data := .seq us.toArray }) (hr : Room n callerA)
    (F : ∀ B : Heap, K.In B → B.Ns mainGlobals mg → FnG P w K mg B CX0 n fa fd [x] sp) (hbind : ∀ (s : Shared) (u : Value), BindsTo s fd ⟨[u], []⟩ [(x, u)]) (H : Hp)
    (hsp : sp [.ref a] H (fun v _ => v = .bl true) fun _ _ _ => False) (only : Only H) (ok : HOk P w H s.heap) (one : ∀ b, H b ≠ none → b = a) (apart : H a ≠ none → K.lookup a = none) :
    codeAny (model P w) callerA (.call (.ref fa) ⟨[.ref a], []⟩) (Good s) s := by
  have free : ∀ {b : Addr} {o : Obj} {es : Array DictEntry} {ep : Nat}, s.heap.get? b = some o → o.data = .dict es ep → H b = none := by
    intro b o es ep e d
    cases q : H b with
    | none => rfl
    | some z =>
      obtain rfl : b = a := one b (by rw [q]; exact fun z => nomatch z)
      rw [ha] at e
      cases e
      exact nomatch (show Data.seq us.toArray _ = Data.dict es ep from d)
  have hidN : ∀ {b : Addr} {m : Str → Option Value}, s.heap.Ns b m → (hidT s.heap H).Ns b m := by
    rintro b m ⟨o, es, ep, e, d, r⟩
    exact ⟨o, es, ep, hidT_get e (free e d), d, r⟩
  have hidK : K.In (hidT s.heap H) := by
    intro b o e
    refine hidT_get (kin b o e) ?_
    cases q : H b with
    | none => rfl
    | some z =>
      obtain rfl : b = a := one b (by rw [q]; exact fun z => nomatch z)
      rw [apart (by rw [q]; exact fun z => nomatch z)] at e
      cases e
  have M : Mod K mg (hidT s.heap H) := by
    obtain ⟨mc, h1, h2⟩ := hlim
    exact ⟨hidK, hidN hns, ⟨mb, hidN hb, hbb⟩, ⟨mc, hidN h1, h2⟩⟩
  have e0 : Env0 P w K mg (hidT s.heap H) callerA [] s H :=
    ⟨rfl, M, fun b o e => of_hidT e, Nat.le_of_eq (hidT_size _ _), trivial, fun b z => (List.not_mem_nil (a := b) z).elim, ok, .of_eq hgens⟩
  refine codeAny_mono ((F _ hidK (hidN hns)).runG callerA [] s H ⟨[.ref a], []⟩ [.ref a] [.ref a] _ _ rfl hr e0 (hbind s (.ref a)) (.cons rfl .nil) hsp) ?_
  intro r s' h
  match r, h with
  | .error e, h => exact (show False from h).elim
  | .ok .next, h => exact (show False from h).elim
  | .ok .brk, h => exact (show False from h).elim
  | .ok .cont, h => exact (show False from h).elim
  | .ok (.ret u), h =>
    obtain ⟨v, H1, os, bare, un, ok1, rv, q⟩ := h
    obtain rfl : v = .bl true := q
    obtain rfl : u = Value.bool true := rv
    refine ⟨rfl, OldK.of_keep ?_, os, bare⟩
    intro b o e
    cases q : H b with
    | none => exact un.keep b o e q (List.not_mem_nil (a := b)) (List.not_mem_nil (a := b))
    | some z =>
      rcases only b with h | ⟨ob, xs, h⟩
      · rw [q] at h
        cases h
      · obtain ⟨e1, _⟩ := ok b _ h
        obtain ⟨e2, _⟩ := ok1 b _ (un.frzs b ob _ h)
        rw [e] at e1
        cases e1
        exact e2
theorem law_callG (kin : K.In s.heap) (hns : s.heap.Ns mainGlobals mg) (hb : s.heap.Ns builtinsNs mb) (hbb : ∀ x : Str, x ≠ "__name__" → mb x = bootBuiltins x) (hlim : s.heap.NoLimit) (hgens : s.gens = #[])
    (ha : s.heap.get? a = some { cls := .type "list", data := .seq us.toArray }) (hi : IntsAre us ns) (hl : ns.length ≤ sizeLine) (hr : Room n callerA)
    (F : ∀ B : Heap, K.In B → B.Ns mainGlobals mg → FnG P w K mg B CX0 n fa fd [x] sp) (hbind : ∀ (s : Shared) (u : Value), BindsTo s fd ⟨[u], []⟩ [(x, u)])
    (hsp : ∀ H : Hp, Only H → SqL K H a (ns.map V.int) → sp [.ref a] H (fun v _ => v = .bl true) fun _ _ _ => False) : codeAny (model P w) callerA (.call (.ref fa) ⟨[.ref a], []⟩) (Good s) s := by
  have rv := vals_ints hi
  cases hk : K.lookup a with
  | some o =>
    have e := kin a o hk
    rw [ha] at e
    cases e
    have hO : Only (fun _ => none) := fun _ => Or.inl rfl
    refine law_from kin hns hb hbb hlim hgens ha hr F hbind (fun _ => none) (hsp _ hO (.inr ⟨_, us.toArray, _, hk, rfl, rfl, rfl, ?_, ?_⟩)) hO (fun b z h => nomatch h) (fun b z => absurd rfl z) (fun z => absurd rfl z)
    · rw [List.size_toArray, hi.length]
      exact hl
    · simpa using rv
  | none =>
    let ob : Obj := { cls := .type "list", data := .seq us.toArray }
    let H0 : Hp := fun b => if b = a then some (.frz ob (.lst (ns.map V.int))) else none
    have at_a : H0 a = some (.frz ob (.lst (ns.map V.int))) := if_pos rfl
    have off_a : ∀ b, b ≠ a → H0 b = none := fun b h => if_neg h
    have hO : Only H0 := by
      intro b
      by_cases h : b = a
      · rw [h]
        exact Or.inr ⟨_, _, at_a⟩
      · exact Or.inl (off_a b h)
    refine law_from kin hns hb hbb hlim hgens ha hr F hbind H0 (hsp _ hO (.inl (.inr ⟨ob, at_a⟩))) hO ?_ ?_ (fun _ => hk)
    · intro b z h
      by_cases hb : b = a
      · subst hb
        rw [at_a] at h
        cases h
        refine ⟨ha, ?_, us, _, rv, ha⟩
        rw [List.length_map]
        exact hl
      · rw [off_a b hb] at h
        cases h
    · intro b z
      by_cases h : b = a
      · exact h
      · exact absurd (off_a b h) z
end
/-- what k_head leaves of such a law -/
theorem walkG {l : PySem.W.OpenLaw} {n k : Nat} {q : Program} {loose : List Str} {XP : (Str → Option Value) → Heap → Prop} {YP : World → Heap → Prop} {d : DefRec} {K : Params → PySem.W.Frag} {sp : PySem.W.Frag → Sp} {x : Str}
    (hn : l.most = some n) (hz : n ≤ sizeLine) (hdf : d.params.defaults = []) (hr : Room k callerA) (hY : ∀ (w : World) (h : Heap), YP w h → (K w.params).In h)
    (F : ∀ (w : World) (mg : Str → Option Value) (fa : Addr) (h : Heap), (K w.params).In h → h.Ns mainGlobals mg → mg d.name = some (.ref fa) →
      ∃ fd : FuncData, (∀ (s : Shared) (u : Value), BindsTo s fd ⟨[u], []⟩ [(x, u)]) ∧ ∀ B : Heap, (K w.params).In B → B.Ns mainGlobals mg → FnG l.prog w (K w.params) mg B CX0 k fa fd [x] (sp (K w.params)))
    (hsp : ∀ (K : PySem.W.Frag) (H : Hp) (a : Addr) (ns : List Int), ns.length ≤ n → Only H → SqL K H a (ns.map V.int) → sp K [.ref a] H (fun v _ => v = .bl true) fun _ _ _ => False) :
    PySem.W.WalkO q loose XP YP l.row.toRowW d [] (fun f vs => PySem.call f vs) := by
  refine Att.attach_call hn hdf ?_
  intro w s₀ s₁ mg mb fa o pm cd doc a vs ns G Y ho hd hcd hmg hobj hints hlen hg
  have kin := hY w _ Y
  obtain ⟨fd, hb, hF⟩ := F w mg fa _ kin G.T.g hmg
  exact law_callG kin G.T.g G.T.b G.T.builtins G.T.nolimit hg hobj hints (Nat.le_trans hlen hz) hr hF hb fun H hO hS => hsp _ H a ns hlen hO hS
end Sx
namespace Sx
open PySem PySem.Spec PyProof.Rows L2


/-! ### rules of either kind -/
theorem OpR.or {X : Cx} {f : Value → Value → Sem Value} {r r' : R2} (h : OpR X f r) (h' : OpR X f r') : OpR X f (fun x y H Q => r x y H Q ∨ r' x y H Q) := by
  intro pins s σ H x y v u Q I rx ry q
  rcases q with q | q
  · exact h pins s σ H x y v u Q I rx ry q
  · exact h' pins s σ H x y v u Q I rx ry q
theorem PI.or {X : Cx} {tg it : Expr} {wi wi' : TI} (h : PI X tg it wi) (h' : PI X tg it wi') : PI X tg it (fun σ H R => wi σ H R ∨ wi' σ H R) := by
  refine ⟨fun pins s σ H R I q => ?_⟩
  rcases q with q | q
  · exact h.run pins s σ H R I q
  · exact h'.run pins s σ H R I q
def iSeq (K : PySem.W.Frag) (tl : TE) : TI := fun σ H R => iList K tl σ H R ∨ iTup K tl σ H R
theorem pi_seq {X : Cx} {tg l : Expr} {tl : TE} (h : PE X l tl) : PI X tg l (iSeq X.K tl) := PI.or (pi_list h) (pi_tup h)
/-- a name of the module that holds a value -/
structure Cst (mg : Str → Option Value) (x : Str) (v : V) : Prop where
  ex : ∃ u, mg x = some u ∧ RelV v u
theorem pe_cst {X : Cx} {x : Str} {v : V} {pos : Pos} (c : Cst X.mg x v) (hg : Gl X x) (hd : (x == ("__debug__" : Str)) = false := by decide) : PE X (.Name x pos) (tC v) := by
  obtain ⟨u, h, r⟩ := c.ex
  exact pe_glob hg h r hd
/-- where a def of the text stands -/
structure At (K : PySem.W.Frag) (mg : Str → Option Value) (x : Str) (st : Stmt) (ps : List Str) (f : Addr) (fd : FuncData) : Prop where
  F : Fun K x x st f fd
  b : Binds K fd ps []
  m : mg x = some (.ref f)

def rLenS (K : PySem.W.Frag) : List V → Hp → VK → Prop := fun xs H Q => ∃ p ys, xs = [.ref p] ∧ (SqL K H p ys ∨ SqT K H p ys) ∧ Q (.int (ys.length : Nat)) H
def rListS (K : PySem.W.Frag) : List V → Hp → VK → Prop := fun xs H Q => ∃ p ys, xs = [.ref p] ∧ (SqL K H p ys ∨ SqT K H p ys) ∧ ∀ l, H l = none → Q (.ref l) (upd H l (.lst ys))
def rTupS (K : PySem.W.Frag) : List V → Hp → VK → Prop := fun xs H Q => ∃ p ys, xs = [.ref p] ∧ ((SqL K H p ys ∧ ∀ l, H l = none → Q (.ref l) (upd H l (.tup ys))) ∨ (SqT K H p ys ∧ Q (.ref p) H))

/-! ### heaps -/
theorem same_new {H : Hp} {p : Addr} {o : HO} (h : H p = none) : Same H (upd H p o) := by
  intro b x e
  rw [upd_ne (ne_of_none e h)]
  exact e
theorem Same.tup {K : PySem.W.Frag} {H H' : Hp} {a : Addr} {xs : List V} (e : Same H H') (h : SqT K H a xs) : SqT K H' a xs := by
  rcases h with (h | ⟨o, h⟩) | h
  · exact .inl (.inl (e _ _ h))
  · exact .inl (.inr ⟨o, e _ _ h⟩)
  · exact .inr h
mutual
theorem dp_same {K : PySem.W.Frag} {H H' : Hp} (e : Same H H') : ∀ (d : PyData) (v : V), Dp K H v d → Dp K H' v d
  | .none, _, h => by
    cases h
    exact .non
  | .bool _, _, h => by
    cases h
    exact .bl _
  | .int _, _, h => by
    cases h
    exact .int _
  | .str _, _, h => by
    cases h
    exact .str _
  | .list ds, _, h => by
    cases h with
    | lst h1 h2 => exact .lst (L2.Same.seq e h1) (dpa_same e ds _ h2)
  | .tuple ds, _, h => by
    cases h with
    | tup h1 h2 => exact .tup (Same.tup e h1) (dpa_same e ds _ h2)
  | .dict _, _, h => by cases h
theorem dpa_same {K : PySem.W.Frag} {H H' : Hp} (e : Same H H') : ∀ (ds : List PyData) (vs : List V), DpAll K H vs ds → DpAll K H' vs ds
  | [], _, h => by
    cases h
    exact .nil
  | d :: ds, _, h => by
    cases h with
    | cons h1 h2 => exact .cons (dp_same e d _ h1) (dpa_same e ds _ h2)
end
theorem dpa_ints {K : PySem.W.Frag} {H : Hp} : ∀ ns : List Int, DpAll K H (ns.map V.int) (ns.map PyData.int)
  | [] => .nil
  | n :: ns => .cons (.int n) (dpa_ints ns)

/-! ### shapes of flat data -/
theorem canAll_ints : ∀ ns : List Int, PyData.canLayAll0 (ns.map PyData.int) = true
  | [] => by simp [PyData.canLayAll0]
  | n :: ns => by simp [PyData.canLayAll0, PyData.canLay0, canAll_ints ns]
theorem depthAll_ints : ∀ ns : List Int, PyData.depthAll (ns.map PyData.int) ≤ 1
  | [] => by simp [PyData.depthAll]
  | n :: ns => by
    have := depthAll_ints ns
    simp only [List.map_cons, PyData.depthAll, PyData.depth]
    exact Nat.max_le.mpr ⟨Nat.zero_le _, this⟩
theorem shaped_ints (ns : List Int) : SeqAt.shaped (.list (ns.map PyData.int)) = true := by
  have h1 := canAll_ints ns
  have h2 := depthAll_ints ns
  unfold SeqAt.shaped
  simp only [PyData.canLay0, PyData.depth, Bool.and_eq_true, decide_eq_true_eq]
  exact ⟨h1, decide_eq_true (by omega)⟩
theorem eqv_nil_ints (ns : List Int) : PyData.eqv (.list (ns.map PyData.int)) (.list []) = ns.isEmpty := by
  cases ns <;> simp [PyData.eqv, PyData.eqvAll]

/-! ### the law's box: a dict with a list and two ints, and nothing of it in H0 -/
def boxKv (g : Addr) (st ct : Int) : List (Key × V) := [(Sum.inr "great", .ref g), (Sum.inr "stirred", .int st), (Sum.inr "count", .int ct)]
structure Bs (H0 H : Hp) (b g : Addr) : Prop where
  sub : Same H0 H
  nb : H0 b = none
  ng : H0 g = none
  ls : ∃ ms : List Int, H g = some (.lst (ms.map V.int)) ∧ ms.length ≤ 63
  dc : ∃ st ct : Int, H b = some (.dK (boxKv g st ct))
namespace Bs
variable {H0 H H1 : Hp} {b g p : Addr} {o u : HO} {K : PySem.W.Frag}
theorem bg (B : Bs H0 H b g) : b ≠ g := by
  obtain ⟨ms, h1, _⟩ := B.ls
  obtain ⟨st, ct, h2⟩ := B.dc
  exact ne_of h2 h1 (fun z => nomatch z)
theorem pb (B : Bs H0 H b g) (n : H p = none) : p ≠ b := by
  obtain ⟨st, ct, h2⟩ := B.dc
  exact (ne_of_none h2 n).symm
theorem pg (B : Bs H0 H b g) (n : H p = none) : p ≠ g := by
  obtain ⟨ms, h2, _⟩ := B.ls
  exact (ne_of_none h2 n).symm
/-- the heap grows by what H0 does not know -/
theorem more (B : Bs H0 H b g) (s : Same H H1) : Bs H0 H1 b g := by
  obtain ⟨ms, h1, h2⟩ := B.ls
  obtain ⟨st, ct, h3⟩ := B.dc
  exact ⟨B.sub.trans s, B.nb, B.ng, ⟨ms, s _ _ h1, h2⟩, ⟨st, ct, s _ _ h3⟩⟩
/-- a new object, known to H0 from now on -/
theorem new (B : Bs H0 H b g) (n : H p = none) : Bs (upd H0 p o) (upd H p o) b g := by
  have n0 := B.sub.free n
  have B1 := B.more (same_new (o := o) n)
  refine ⟨?_, by rw [upd_ne (B.pb n).symm]; exact B.nb, by rw [upd_ne (B.pg n).symm]; exact B.ng, B1.ls, B1.dc⟩
  intro c x e
  by_cases h : c = p
  · subst h
    rw [upd_same] at e ⊢
    exact e
  · rw [upd_ne h] at e ⊢
    exact B.sub c x e
/-- what came behind a call, known to H0 from now on -/
theorem keep (B : Bs H0 H b g) (s : Same H H1) (n : H p = none) (e : H1 p = some o) : Bs (upd H0 p o) H1 b g := by
  have B1 := B.more s
  refine ⟨?_, by rw [upd_ne (B.pb n).symm]; exact B.nb, by rw [upd_ne (B.pg n).symm]; exact B.ng, B1.ls, B1.dc⟩
  intro c x h
  by_cases hc : c = p
  · subst hc
    rw [upd_same] at h
    cases h
    exact e
  · rw [upd_ne hc] at h
    exact B1.sub c x h
/-- an object that H0 knows is changed -/
theorem put (B : Bs H0 H b g) (e : H0 p = some u) : Bs (upd H0 p o) (upd H p o) b g := by
  have pb : p ≠ b := ne_of_none e B.nb
  have pg : p ≠ g := ne_of_none e B.ng
  obtain ⟨ms, h1, h2⟩ := B.ls
  obtain ⟨st, ct, h3⟩ := B.dc
  refine ⟨?_, by rw [upd_ne pb.symm]; exact B.nb, by rw [upd_ne pg.symm]; exact B.ng, ⟨ms, by rw [upd_ne pg.symm]; exact h1, h2⟩, ⟨st, ct, by rw [upd_ne pb.symm]; exact h3⟩⟩
  intro c x h
  by_cases hc : c = p
  · subst hc
    rw [upd_same] at h ⊢
    exact h
  · rw [upd_ne hc] at h ⊢
    exact B.sub c x h
/-- less is known -/
theorem less {H2 : Hp} (B : Bs H0 H b g) (s : Same H2 H0) : Bs H2 H b g := ⟨s.trans B.sub, s.free B.nb, s.free B.ng, B.ls, B.dc⟩
end Bs
theorem key_s {x : Str} {kvs : List (Key × V)} {H : Hp} {a : Addr} {v : V} (h : H a = some (.dK kvs)) (e : valV kvs (Sum.inr x) = some v) : DGet H a (.str x) (some v) := by
  have q := DGet.k (k := Sum.inr x) h
  rw [e] at q
  exact q

theorem ixN_zero (n : Nat) : ixN (n + 1) 0 = some 0 := by
  unfold ixN
  rw [if_pos (by decide), if_pos (by omega)] <;> rfl
theorem seqIx_zero (n : Nat) : seqIndex? 0 (n + 1) = some 0 := PySem.StrLaws.seqIndex_nonneg (by decide) (by omega)

/-! ### what the law's own draws promise -/
def Small (m : Int) : Prop := 0 < m ∧ m.natAbs.log2 < 9000
theorem small_of {m : Int} (h0 : 0 < m) (h1 : m < 2 ^ 60) : Small m := ⟨h0, Nat.lt_trans (PySem.Flt.log2_lt_of (k := 60) (by decide) (by omega)) (by decide)⟩
def sp__law_draw (_ : PySem.W.Frag) : Sp := fun vs H Q _ => ∃ (H0 : Hp) (b g : Addr) (m : Int), vs = [.ref b, .int m] ∧ Bs H0 H b g ∧ Small m ∧ ∀ (r : Int) (H' : Hp), 0 ≤ r → r < m → Bs H0 H' b g → Q (.int r) H'
/-- the list given stands at a; any of its items comes back -/
def sp__law_pick (K : PySem.W.Frag) : Sp := fun vs H Q _ => ∃ (H0 : Hp) (b g a : Addr) (xs : List V), vs = [.ref b, .ref a] ∧ Bs H0 H b g ∧ (SqL K H0 a xs ∨ SqT K H0 a xs) ∧ xs ≠ [] ∧ xs.length ≤ 100000 ∧
  ∀ (i : Nat) (x : V) (H' : Hp), xs[i]? = some x → Bs H0 H' b g → Q x H'
def sp__law_great (_ : PySem.W.Frag) : Sp := fun vs H Q _ => ∃ (H0 : Hp) (b g : Addr) (m : Int), vs = [.ref b, .int m] ∧ Bs H0 H b g ∧ 0 ≤ m ∧ m ≤ 40 ∧ ∀ (r : Int) (H' : Hp), 0 ≤ r → r < 1000000 ^ m.toNat → Bs H0 H' b g → Q (.int r) H'
/-- some number -/
def IsNum (n : Int) : Prop := -(10 ^ 60) ≤ n ∧ n ≤ 10 ^ 60
def sp__law_number (_ : PySem.W.Frag) : Sp := fun vs H Q _ => ∃ (H0 : Hp) (b g : Addr), vs = [.ref b] ∧ Bs H0 H b g ∧ ∀ (r : Int) (H' : Hp), IsNum r → Bs H0 H' b g → Q (.int r) H'
/-- the moduli of some machine -/
structure IsMach (ns : List Int) : Prop where
  one : 1 ≤ ns.length
  ten : ns.length ≤ 10
  mod : ∀ n ∈ ns, 2 ≤ n ∧ n ≤ 1000000
def sp__law_machine (_ : PySem.W.Frag) : Sp := fun vs H Q _ => ∃ (H0 : Hp) (b g : Addr), vs = [.ref b] ∧ Bs H0 H b g ∧ ∀ (ns : List Int) (p : Addr) (H' : Hp), IsMach ns → H0 p = none → H' p = some (.tup (ns.map V.int)) → p ≠ b → p ≠ g → Bs H0 H' b g → Q (.ref p) H'
def sp__law_box (K : PySem.W.Frag) : Sp := fun vs H Q _ => ∃ (a : Addr) (ns : List Int), vs = [.ref a] ∧ SqL K H a (ns.map V.int) ∧ ns.length ≤ 63 ∧ ∀ (b g : Addr) (H' : Hp), Bs H H' b g → Q (.ref b) H'
def sp__law_rest (_ : PySem.W.Frag) : Sp := fun vs H Q _ => ∃ (n m : Int), vs = [.int n, .int m] ∧ 0 < m ∧ m < 2 ^ 60 ∧ Q (.int (n % m)) H
def sp_law (K : PySem.W.Frag) : Sp := fun vs H Q _ => ∃ (a : Addr) (ns : List Int), vs = [.ref a] ∧ SqL K H a (ns.map V.int) ∧ ns.length ≤ 63 ∧ ∀ H', Q (.bl true) H'
end Sx
namespace Sx
open PySem PySem.Spec PyProof.Rows L2

/-! ### t * 1 is t itself -/
theorem tuple_mul1 (l : Addr) (items : Array Value) (n : Nat) (dd : Option Addr) (sl : Array (Option Value)) (u : Tok) :
    Meets (Builtin.«tuple.__mul__» ⟨[.ref l, .int 1 u], []⟩) (fun _ R s => s.heap.get? l = some { cls := .type "tuple", dict := dd, data := .seq items n, slots := sl } ∧ R (.ok (.ret (.ref l))) s) :=
  .of_wp fun prog w A R s h => by
    obtain ⟨hp, g, d, tk, os⟩ := s
    obtain ⟨hl, h⟩ := h
    have f1 := AutoSeq1.idx_int
    have c1 : (items.isEmpty || (1 : Int) == 1) = true := by simp
    wp_walk using wpAny_loadPart' hl
    repeat (first
      | (refine wpAny_ite_true (decide_eq_true (by rw [c1])) ?_; wp_walk using wpAny_loadPart' hl)
      | (refine wpAny_ite_false (by decide) ?_; wp_walk using wpAny_loadPart' hl))
    exact ⟨_, rfl, h⟩
def rRep1 (K : PySem.W.Frag) : R2 := fun x y H Q => ∃ l xs, x = .ref l ∧ y = .int 1 ∧ SqT K H l xs ∧ Q (.ref l) H
theorem op_rep1 {X : Cx} : OpR X (binaryOp .Mult) (rRep1 X.K) := by
  intro pins s σ H x y v u Q I rx ry h
  obtain ⟨l, xs, rfl, rfl, hT, q⟩ := h
  obtain rfl : v = Value.ref l := rx
  obtain ⟨t, rfl⟩ := ry
  obtain ⟨its, r, ⟨⟨cls, dd, data, sl⟩, ho, hc, n, hd⟩, hs⟩ := I.tuple hT
  simp only at hc hd
  subst hc hd
  exact wpAny_binaryOp_repeat_ref (T := "tuple") (U := "int") (by decide) ⟨_, ho, rfl⟩ (fun s' => typeIs_int s' 1 t) noFill_tuple_mul F.fills_int_mul F.slot_int_rmul repeat_tuple F.slot_int_index.lookup
    (call_meets F.slot_int_rmul (typeIs_int s 1 t) F.entry_int_rmul (F.args_int_rmul_2 _ _) (int_rmul_tuple 1 t l its.toArray n dd sl)
      ⟨ho, rfl, ⟨_, ho, rfl⟩, call_meets F.slot_tuple_mul ⟨_, ho, rfl⟩ F.entry_tuple_mul (F.args_tuple_mul_2 _ _) (tuple_mul1 l its.toArray n dd sl t) ⟨ho, ⟨.ref l, H, I, rfl, q⟩⟩⟩)
/-- t * k, 1 ≤ k -/
def rRepAny (K : PySem.W.Frag) : R2 := fun x y H Q => rRepT K x y H Q ∨ rRep1 K x y H Q
theorem op_repAny {X : Cx} : OpR X (binaryOp .Mult) (rRepAny X.K) := OpR.or op_repT op_rep1

/-! ### a word between an expression and what follows -/
def tCutE (t : TE) : TE := fun σ H Q => ∃ M : V → Hp → Prop, t σ H M ∧ ∀ v H', M v H' → Q v H'
theorem pe_cut {X : Cx} {e : Expr} {t : TE} (h : PE X e t) : PE X e (tCutE t) := by
  refine ⟨fun pins s σ H Q I q => ?_⟩
  obtain ⟨M, q1, q2⟩ := q
  exact thn (h.run pins s σ H M I q1) fun u s1 ⟨v, H1, I1, r, m⟩ => ⟨v, H1, I1, r, q2 v H1 m⟩

theorem pow_mono {n m : Nat} (h : n ≤ m) : (1000000 : Int) ^ n ≤ 1000000 ^ m := by
  have e : ∀ k : Nat, (1000000 : Int) ^ k = ((1000000 ^ k : Nat) : Int) := fun k => (Int.natCast_pow 1000000 k).symm
  rw [e, e]
  exact Int.ofNat_le.mpr (Nat.pow_le_pow_right (by decide) h)

/-! ### comprehensions whose items are drawn, one int each -/
section
variable {H0 H1 : Hp} {b g D : Addr}
/-- over range(n): each item an int with the property R -/
theorem lc_drawn {n j : Nat} {te : TE} {vs : List Nat} {σ : L2.St} {Qd : Hp → Prop} (R : Int → Prop) (B : Bs H0 H1 b g) (hD : H1 D = none) (hn : n ≤ 100000) (hw : ∀ x, wipe ((wipe σ vs).set j (some x)) vs = wipe σ vs)
    (he : ∀ (i : Nat) (H2 H3 : Hp) (Q : VK), i < n → Same H0 H2 → Bs H2 H3 b g → (∀ (m : Int) (H4 : Hp), R m → Bs H2 H4 b g → Q (.int m) H4) → te ((wipe σ vs).set j (some (.int (0 + (i : Int))))) H3 Q)
    (hd : ∀ (ms : List Int) (H3 : Hp), ms.length = n → (∀ m ∈ ms, R m) → Bs (upd H0 D (.lst (ms.map V.int))) H3 b g → Qd H3) :
    ∃ W : Nat → Nat → Hp → Prop, (∃ m, W 0 m (upd H1 D (.lst []))) ∧ ∀ i m H, W i m H →
      ((Itr 0 n).stop i H ∧ Qd H) ∨ ((Itr 0 n).go i H ∧ ∃ Nx : Hp → Prop, (∀ H', Nx H' → ∃ m', m' < m ∧ W (i + 1) m' H') ∧ ∀ x H', (Itr 0 n).yld i H x H' → gName j x (wipe σ vs) H' fun σ2 H2 => wipe σ2 vs = wipe σ vs ∧ tYes σ2 H2 fun b H3 =>
        if b = true then te σ2 H3 fun y H4 => ∃ acc, H4 D = some (.lst acc) ∧ acc.length < sizeLine ∧ Nx (upd H4 D (.lst (acc ++ [y]))) else Nx H3) := by
  have n0 : H0 D = none := B.sub.free hD
  have s0 : ∀ o, Same H0 (upd H0 D o) := fun o => same_new n0
  refine lc_range (lo := 0) (n := n) (fun i H => ∃ ms : List Int, ms.length = i ∧ (∀ m ∈ ms, R m) ∧ Bs (upd H0 D (.lst (ms.map V.int))) H b g) ⟨[], rfl, (fun _ z => nomatch z), B.new hD⟩ ?_ ?_
  · rintro i H hi ⟨ms, hl, hr, B3⟩
    refine ⟨hw _, ?_⟩
    unfold tYes
    dsimp only
    refine iteT (he i (upd H0 D (.lst (ms.map V.int))) H _ hi (s0 _) B3 fun m H4 hm B4 => ?_)
    refine ⟨ms.map V.int, B4.sub _ _ upd_same, ?_, ms ++ [m], ?_, ?_, ?_⟩
    · rw [List.length_map, hl]
      exact Nat.lt_of_lt_of_le hi (Nat.le_trans hn (by decide))
    · rw [List.length_append, hl, List.length_singleton]
    · intro x hx
      rcases List.mem_append.mp hx with h | h
      · exact hr x h
      · rw [List.mem_singleton.mp h]
        exact hm
    · have B5 := B4.put (o := .lst ((ms ++ [m]).map V.int)) upd_same
      rw [upd_upd] at B5
      rw [List.map_append] at B5 ⊢
      exact B5
  · rintro H ⟨ms, hl, hr, B3⟩
    exact hd ms H hl hr B3
end
/-! ### what the program's defs promise -/
def rests (ns : List Int) (n : Int) : List Int := ns.map fun m => n % m
def sp_rests_of (K : PySem.W.Frag) : Sp := fun vs H Q _ => ∃ (t : Addr) (ns : List Int) (n : Int), vs = [.ref t, .int n] ∧ SqT K H t (ns.map V.int) ∧ IsMach ns ∧
  ∀ (p : Addr) (H' : Hp), Same H H' → H p = none → H' p = some (.tup ((rests ns n).map V.int)) → Q (.ref p) H'
end Sx
namespace Sx
open PySem PySem.Spec PyProof.Rows L2

/-! ### enumerate of a tuple -/
section
variable {prog : Program} {w : World} {A : Around} {E : Value → Shared → Prop} {s : Shared}
set_option maxHeartbeats 1000000 in
theorem meets_enum_one {v : Value} {o : Obj} {H : Heap → Prop} (B : Begins v o H) :
    Meets (Builtin.«enumerate.__new__» ⟨[.type "enumerate", v], []⟩) (fun _ R s => H s.heap ∧
      R (.ok (.ret (.ref (s.heap.push o).objs.size))) { s with heap := (s.heap.push o).push { cls := .type "enumerate", data := .fields #[.none, .bool false, .ref s.heap.objs.size, rawInt 0, .none, .none] } }) :=
  .of_wp fun prog w A R s h => by
    obtain ⟨hp, g, d, tk, os⟩ := s
    obtain ⟨h1, h⟩ := h
    have hsub := sub_enumerate
    have q1 : ∀ {A' : Around} {E Q : Value → Shared → Prop}, Q (.ref hp.objs.size) ⟨hp.push o, g, d, tk, os⟩ → wpAny (model prog w) A' (pyIter v) Q E ⟨hp, g, d, tk, os⟩ :=
      fun q => B.iter prog w _ _ ⟨hp, g, d, tk, os⟩ _ h1 q
    wp_walk using q1
    refine wpAny_stack_any fun st => wpAny_pure ?_
    split
    · rename_i c _ _ _ _ _
      cases (c == Value.type "enumerate")
      all_goals
        wp_walk using q1
        exact ⟨_, rfl, h⟩
    · wp_walk using q1
      exact ⟨_, rfl, h⟩
theorem call_enum_one {v : Value} {o : Obj} {H : Heap → Prop} {Q : Value → Shared → Prop} (B : Begins v o H) (h1 : H s.heap)
    (h : ∀ h1 : Heap, IsEnum h1 (s.heap.objs.size + 1) s.heap.objs.size 0 .none → h1.get? s.heap.objs.size = some o → h1.objs.size = s.heap.objs.size + 2 →
      (∀ b o, s.heap.get? b = some o → h1.get? b = some o) → Q (.ref (s.heap.objs.size + 1)) { s with heap := h1 }) : wpAny (model prog w) A (call (.type "enumerate") [v]) Q E s := by
  refine callType_new F.called_enumerate (by decide) (F.typeCall_enumerate_1 _) (F.newCall_enumerate_1 _) (fun obj => F.args_object_init_2 obj _) F.entry_enumerate_new (meets_enum_one B) ⟨h1, ?_⟩
  have hz : (s.heap.push o).objs.size = s.heap.objs.size + 1 := Heap.size_push ..
  show _ ∧ _
  rw [hz]
  have hnew : IsEnum ((s.heap.push o).push { cls := .type "enumerate", data := .fields #[.none, .bool false, .ref s.heap.objs.size, rawInt 0, .none, .none] }) (s.heap.objs.size + 1) s.heap.objs.size 0 .none := by
    have q := Heap.get?_push_size (s.heap.push o) (o := { cls := .type "enumerate", data := .fields #[.none, .bool false, .ref s.heap.objs.size, rawInt 0, .none, .none] }) rfl
    rw [hz] at q
    exact q
  exact ⟨⟨_, hnew, rfl⟩, h _ hnew (Heap.get?_push_of_some _ (Heap.get?_push_size _ B.free)) (by rw [Heap.size_push, hz]) (fun b o x => Heap.get?_push_of_some _ (Heap.get?_push_of_some _ x))⟩
end
/-- the tuple at a, each item in a new pair with its place -/
def IteT (K : PySem.W.Frag) (a : Addr) : It where
  go := fun i H => ∃ (xs : List V) (x : V), SqT K H a xs ∧ xs[i]? = some x
  yld := fun i H v H1 => ∃ T x, v = .ref T ∧ H T = none ∧ H1 = upd H T (.tup [.int (i : Nat), x]) ∧ ∀ xs, SqT K H a xs → xs[i]? = some x
  stop := fun i H => ∃ xs : List V, SqT K H a xs ∧ xs.length ≤ i
theorem turn_enumT {P : Program} {w : World} {K : PySem.W.Frag} {elts : List Expr} {kk : Nat} {tpos : Pos} (a e it : Addr) :
    Turn P w K (.Tuple elts kk tpos) (IteT K a) [e, it] e (fun i h => (∃ old, IsEnum h e it ((i : Nat) : Int) old) ∧ h.IsTupleIter it a i ∧ e ≠ it ∧ e ≠ a ∧ a ≠ it) where
  mem := List.mem_cons_self
  obj := by
    rintro i h ⟨⟨old, he⟩, ⟨o, ho, hc, hd⟩, _⟩ b hb
    rcases List.mem_cons.mp hb with z | z
    · rw [z]
      exact ⟨_, he, fun v q => nomatch q⟩
    · rw [List.mem_singleton.mp z]
      refine ⟨o, ho, fun v q => ?_⟩
      rw [hd] at q
      cases q
  keep := by
    rintro i h h' ⟨⟨old, he⟩, hi, ne⟩ k
    exact ⟨⟨old, k e (by simp) _ he⟩, hi.at fun o q => k it (by simp) o q, ne⟩
  item := by
    intro X hP hw hK hc i pins s σ H E I hf st hg
    subst hP hw hK
    obtain ⟨⟨old, he⟩, hit, n1, n2, n3⟩ := st
    obtain ⟨xs, x, hq, hx⟩ := hg
    obtain ⟨its, rv, p, hz⟩ := I.tuple hq
    obtain ⟨u, hu, ru⟩ := rv.get hx
    have hel : e < s.heap.objs.size := Heap.lt_size he
    have hil : it < s.heap.objs.size := by
      obtain ⟨_, q, _⟩ := hit
      exact Heap.lt_size q
    have hlt : i < its.toArray.size := by
      have := (List.getElem?_eq_some_iff.mp hu).1
      simpa using this
    refine wpAny_pyNext_enum_itemC (Draws.tuple (A := X.A.in1) (I.ok.hd hc) it a n3 its.toArray) he ⟨hit, p⟩ hlt n1 (by simp [n1, n2]) fun y h' tk hy ho hs' hT hsz hk => ?_
    obtain rfl : y = u := by
      have hu' : its.toArray[i]? = some u := by simpa using hu
      exact Option.some.inj (hy.symm.trans hu')
    refine ⟨_, rfl, wpAny_letOwnedTupleGo_enum (s := { s with heap := h', toks := tk + 1 }) ho fun h2 he' sb => ?_⟩
    have hT2 : h2.get? s.heap.objs.size = some { cls := .type "tuple", data := .seq #[.int i tk, y] } := (sb.2 _ (Nat.ne_of_gt hel)).trans hT
    have new : ObjOk X.prog X.w (upd H s.heap.objs.size (.tup [.int (i : Nat), x])) h2 s.heap.objs.size (.tup [.int (i : Nat), x]) :=
      ⟨(show 2 ≤ sizeLine by decide), [.int i tk, y], .cons ⟨_, rfl⟩ (.cons ru .nil), ⟨_, hT2, rfl, _, rfl⟩⟩
    have I1 : Inv X pins σ (upd H s.heap.objs.size (.tup [.int (i : Nat), x])) { s with heap := h2, toks := tk + 1 } :=
      I.turnedNew (ch := [e, it]) (fun b ob hb q => (sb.2 b (fun z => hb (by simp [z]))).trans (hk b ob (fun z => hb (by simp [z])) (fun z => hb (by simp [z])) q)) hf (Nat.le_refl _) new
    refine ⟨.ref s.heap.objs.size, _, I1, rfl, ⟨_, x, rfl, I.hok.fresh (Nat.le_refl _), rfl, fun ys hy => by rw [I.tuple_inj hy hq]; exact hx⟩, ⟨⟨y, ?_⟩, hs'.1.at fun o q => (sb.2 it (Ne.symm n1)).trans q, n1, n2, n3⟩, fun b hb => ?_⟩
    · rw [show ((i + 1 : Nat) : Int) = (i : Int) + 1 by omega]
      exact he'
    · have hb' : b < s.heap.objs.size := by
        rcases List.mem_cons.mp hb with z | z
        · rw [z]
          exact hel
        · rw [List.mem_singleton.mp z]
          exact hil
      rw [upd_ne (Nat.ne_of_lt hb')]
      exact (hf b hb).1
  done := by
    intro X hP hw hK hc i pins s σ H E I hf st hg
    subst hP hw hK
    obtain ⟨⟨old, he⟩, hit, n1, n2, n3⟩ := st
    obtain ⟨xs, hq, hx⟩ := hg
    obtain ⟨its, rv, p, hz⟩ := I.tuple hq
    obtain ⟨f0, f1, f2, f3, f4, f5⟩ := hf it (by simp)
    have hl := rv.length
    have hT : s.TypeIs (.ref e) "enumerate" := ⟨_, he, rfl⟩
    unfold pyNext
    refine wpAny_bind (wpAny_attempt (wpAny_callSpecial?_slot (name := Str.ofString "__next__") hT F.slot_enumerate_next
      (wpAny_call_entry F.slot_enumerate_next hT F.entry_enumerate_next ?_ (F.args_enumerate_next_1 _))))
    show wpAny _ _ (field (.ref e) 2 >>= _) _ _ _
    refine wpAny_bind (wpAny_field he rfl (x := .ref it) rfl ?_)
    refine wpAny_bind (wpAny_nextOf_tuple_end (A := X.A.in1) (I.ok.hd hc) hit p (by simp; omega) fun h' x he' hx' => ?_)
    obtain ⟨o, ho, hc'⟩ := hx'
    refine wpAny_bind (wpAny_isInstance (T := "StopIteration") (b := true) ⟨o, ho, hc'⟩ isSubtype_stop ?_)
    exact wpAny_pure ⟨rfl, I.turned (t' := s.toks) (fun b o hb q => he' b o hb q) f0 f1 f3 f4 f5⟩
  self := by
    rintro A i s Q E ⟨⟨_, he⟩, _⟩ h
    exact wpAny_pyIter_enum he h
def iEnumT (K : PySem.W.Frag) (ta : TA) : TI := fun σ H R => ta σ H fun vs H1 => ∃ a xs, vs = [.ref a] ∧ SqT K H1 a xs ∧ R (IteT K a) H1
theorem pi_enumT {X : Cx} {e : Expr} {ta : TA} {p pos tpos : Pos} {elts : List Expr} {kk : Nat} (hg : Gl X "enumerate") (hm : X.mg "enumerate" = none) (ha : PA X [e] ta) (hs : starEach [e] X.env = [(false, eval e X.env)] := by rfl) :
    PI X (.Tuple elts kk tpos) (.Call (.Name "enumerate" p) [e] [] pos) (iEnumT X.K ta) := by
  refine ⟨fun pins s σ H R I h => Call_ (ld_blt I hg hm boot_enumerate (PyProof.Rows.callWith_type1 (thn (ha.run pos pins s σ H _ I h) ?_) hs rfl))⟩
  rintro us s1 ⟨vs, H1, I1, r1, a, xs, rfl, hq, q⟩
  obtain ⟨u, rfl, rr⟩ := vals1 r1
  obtain rfl : u = Value.ref a := rr
  obtain ⟨its, rv, tp, hz⟩ := I1.tuple hq
  have hal : a < s1.heap.objs.size := tp.lt
  refine call_enum_one (begins_tuple a its.toArray) tp fun h1 he hit hsz hk => wpAny_pyIter_enum he ?_
  have I2 : Inv X pins σ H1 { s1 with heap := h1 } := I1.kept (t' := s1.toks) hk
  have n1 : s1.heap.objs.size + 1 ≠ a := Nat.ne_of_gt (Nat.lt_succ_of_lt hal)
  have n2 : a ≠ s1.heap.objs.size := Nat.ne_of_lt hal
  refine ⟨s1.heap.objs.size + 1, [s1.heap.objs.size + 1, s1.heap.objs.size], _, _, H1, rfl, I2, turn_enumT a (s1.heap.objs.size + 1) s1.heap.objs.size, ⟨⟨.none, he⟩, ⟨_, hit, rfl, rfl⟩, Nat.succ_ne_self _, n1, n2⟩, fun b hb => ?_, q⟩
  have hle : s1.heap.objs.size ≤ b := by
    rcases List.mem_cons.mp hb with z | z
    · rw [z]
      exact Nat.le_add_right _ _
    · rw [List.mem_singleton.mp z]
      exact Nat.le_refl _
  exact I1.fpOk hle (I1.hok.fresh hle)
theorem walk_enumT {K : PySem.W.Frag} {a : Addr} {xs : List V} : Walk (IteT K a) xs.length (fun H => SqT K H a xs) (YPair (fun i => some (.int (i : Nat))) (fun i => xs[i]?)) := by
  refine ⟨fun i _ hi q => ⟨xs, xs[i], q, List.getElem?_eq_getElem hi⟩, fun _ q => ⟨xs, q, Nat.le_refl _⟩, ?_⟩
  rintro i H v H1 _ q ⟨T, x, h1, h2, h3, h4⟩
  exact ⟨T, .int (i : Nat), x, h1, h2, h3, rfl, h4 xs q⟩

/-! ### comprehensions that reckon: what a turn gives hangs on its item alone -/
theorem lc_reckon {β : Type} {J : It} {n : Nat} {zs : List β} {G : Hp → Prop} {Y : Nat → Hp → V → Hp → Prop} (w : Walk J n G Y) (hzn : zs.length = n) {g : TG} {tt : TT} {te : TE} {vs : List Nat} {σ : L2.St} {H1 : Hp} {D : Addr} {Qd : Hp → Prop} (f : β → Bool) (v : β → V) (hn : zs.length ≤ 100000)
    (hD : H1 D = none) (hG : ∀ H, Same H1 H → G H)
    (hs : ∀ i z x H H2, zs[i]? = some z → Same H1 H → Y i H x H2 → Same H H2 ∧ ∃ σ2, (∀ Q : L2.St → Hp → Prop, Q σ2 H2 → g x (wipe σ vs) H2 Q) ∧ wipe σ2 vs = wipe σ vs ∧
      (∀ Q : Bool → Hp → Prop, (∀ H3, Same H2 H3 → Q (f z) H3) → tt σ2 H2 Q) ∧ (f z = true → ∀ H3 (Q : VK), Same H1 H3 → Same H2 H3 → (∀ H4, Same H3 H4 → Q (v z) H4) → te σ2 H3 Q))
    (hd : ∀ H, Same H1 H → H D = some (.lst ((zs.filter f).map v)) → Qd H) :
    ∃ W : Nat → Nat → Hp → Prop, (∃ m, W 0 m (upd H1 D (.lst []))) ∧ ∀ i m H, W i m H →
      (J.stop i H ∧ Qd H) ∨ (J.go i H ∧ ∃ Nx : Hp → Prop, (∀ H', Nx H' → ∃ m', m' < m ∧ W (i + 1) m' H') ∧ ∀ x H', J.yld i H x H' → g x (wipe σ vs) H' fun σ2 H2 => wipe σ2 vs = wipe σ vs ∧ tt σ2 H2 fun b H3 =>
        if b = true then te σ2 H3 fun y H4 => ∃ acc, H4 D = some (.lst acc) ∧ acc.length < sizeLine ∧ Nx (upd H4 D (.lst (acc ++ [y]))) else Nx H3) := by
  subst hzn
  refine lc_it w (fun i H => Same H1 H ∧ H D = some (.lst (((zs.take i).filter f).map v))) ⟨same_new hD, upd_same⟩ (fun i H _ p => hG H p.1) ?_ ?_
  · rintro i x H H2 hi ⟨s1, e1⟩ y
    have hz : zs[i]? = some zs[i] := List.getElem?_eq_getElem hi
    obtain ⟨s2, σ2, h1, h2, h3, h4⟩ := hs i zs[i] x H H2 hz s1 y
    have tk : zs.take (i + 1) = zs.take i ++ [zs[i]] := by
      rw [List.take_add_one, hz] <;> rfl
    refine h1 _ ⟨h2, h3 _ fun H3 s3 => ?_⟩
    by_cases hf : f zs[i] = true
    · rw [hf]
      refine iteT (h4 hf H3 _ ((s1.trans s2).trans s3) s3 fun H4 s4 => ?_)
      have e4 : H4 D = some (.lst (((zs.take i).filter f).map v)) := s4 _ _ (s3 _ _ (s2 _ _ e1))
      refine ⟨_, e4, ?_, ?_, ?_⟩
      · rw [List.length_map]
        have l1 := List.length_filter_le f (zs.take i)
        rw [List.length_take] at l1
        exact Nat.lt_of_lt_of_le (show _ < 100000 by omega) (by decide)
      · intro c o h
        rw [upd_ne (ne_of_none h hD)]
        exact s4 _ _ (s3 _ _ (s2 _ _ (s1 _ _ h)))
      · rw [upd_same, tk, List.filter_append, List.map_append, List.filter_cons_of_pos hf] <;> rfl
    · rw [Bool.not_eq_true] at hf
      rw [hf]
      refine iteF ⟨(s1.trans s2).trans s3, ?_⟩
      rw [tk, List.filter_append, List.filter_cons_of_neg (by rw [hf]; decide)]
      show H3 D = some (.lst (((zs.take i).filter f ++ []).map v))
      rw [List.append_nil]
      exact s3 _ _ (s2 _ _ e1)
  · rintro H ⟨s1, e1⟩
    rw [List.take_length] at e1
    exact hd H s1 e1
end Sx
namespace Sx
open PySem PySem.Spec PyProof.Rows L2

/-! ### what may be shown, by a count of its parts -/
mutual
def nod : PyData → Nat
  | .none | .bool _ | .int _ => 1
  | .str x => 1 + x.length
  | .list xs | .tuple xs => 1 + nodAll xs
  | .dict _ => 0
def nodAll : List PyData → Nat
  | [] => 0
  | x :: xs => nod x + nodAll xs
end
def big : Nat := 10 ^ 130
mutual
/-- ints below 10 ** 130, texts of plain signs, no dicts -/
def fine : PyData → Bool
  | .none | .bool _ => true
  | .int i => decide (i.natAbs < big)
  | .str x => x.cps.toList.all fun c => decide (c < 16 ^ 8)
  | .list xs | .tuple xs => fineAll xs
  | .dict _ => false
def fineAll : List PyData → Bool
  | [] => true
  | x :: xs => fine x && fineAll xs
end
theorem big_log {i : Nat} (h : i < big) : i.log2 < 1920 := by
  have h2 : i < 2 ^ 1920 := Nat.lt_trans h (by decide +kernel)
  exact PySem.Flt.log2_lt_of (by decide) h2
theorem big_len {i : Int} (h : i.natAbs < big) : (PyData.shown (.int i)).length ≤ 131 := by
  have e := int_text_length_le10 (k := 130) (by decide) h
  show (Str.ofString (toString i)).length ≤ 131
  rw [PySem.ofString_length]
  exact e
mutual
theorem fine_show : ∀ d : PyData, fine d = true → d.showable = true ∧ d.shown.length + 3 ≤ 300 * nod d
  | .none, _ => ⟨rfl, by decide +kernel⟩
  | .bool b, _ => by
    cases b
    · exact ⟨rfl, by decide +kernel⟩
    · exact ⟨rfl, by decide +kernel⟩
  | .int i, h => by
    have h1 : i.natAbs < big := by simpa [fine] using h
    have e := big_len h1
    refine ⟨by simpa [PyData.showable] using big_log h1, ?_⟩
    show _ ≤ 300 * 1
    omega
  | .str x, h => by
    have h1 : ∀ c ∈ x.cps.toList, c < 16 ^ 8 := by
      have h' := h
      simp only [fine, List.all_eq_true, decide_eq_true_eq] at h'
      exact h'
    have e := StrLaws.reprText_len x h1
    refine ⟨rfl, ?_⟩
    simp only [PyData.shown]
    show _ ≤ 300 * (1 + x.length)
    omega
  | .list xs, h => by
    obtain ⟨h1, h2⟩ := fineAll_show xs (by simpa [fine] using h)
    have e := listText_len_le (PyData.shownAll xs)
    rw [PyData.shownAll_length] at e
    refine ⟨by simpa [PyData.showable] using h1, ?_⟩
    simp only [PyData.shown]
    show _ ≤ 300 * (1 + nodAll xs)
    omega
  | .tuple xs, h => by
    obtain ⟨h1, h2⟩ := fineAll_show xs (by simpa [fine] using h)
    have e := tupleText_len_le (PyData.shownAll xs)
    rw [PyData.shownAll_length] at e
    refine ⟨by simpa [PyData.showable] using h1, ?_⟩
    simp only [PyData.shown]
    show _ ≤ 300 * (1 + nodAll xs)
    omega
  | .dict _, h => by simp [fine] at h
theorem fineAll_show : ∀ xs : List PyData, fineAll xs = true → PyData.showableAll xs = true ∧ ((PyData.shownAll xs).map (·.length)).sum + 3 * xs.length ≤ 300 * nodAll xs
  | [], _ => ⟨rfl, by decide⟩
  | x :: xs, h => by
    have h' : fine x = true ∧ fineAll xs = true := by simpa [fineAll] using h
    obtain ⟨a1, a2⟩ := fine_show x h'.1
    obtain ⟨b1, b2⟩ := fineAll_show xs h'.2
    refine ⟨by simp [PyData.showableAll, a1, b1], ?_⟩
    simp only [PyData.shownAll, List.map_cons, List.sum_cons, List.length_cons]
    show _ ≤ 300 * (nod x + nodAll xs)
    omega
end
mutual
theorem depth_nod : ∀ d : PyData, d.hasDict = false → d.depth ≤ nod d
  | .none, _ => Nat.zero_le _
  | .bool _, _ => Nat.zero_le _
  | .int _, _ => Nat.zero_le _
  | .str _, _ => Nat.zero_le _
  | .list xs, h => by
    have q := depthAll_nod xs (by simpa [PyData.hasDict] using h)
    show PyData.depthAll xs + 1 ≤ 1 + nodAll xs
    omega
  | .tuple xs, h => by
    have q := depthAll_nod xs (by simpa [PyData.hasDict] using h)
    show PyData.depthAll xs + 1 ≤ 1 + nodAll xs
    omega
  | .dict _, h => by simp [PyData.hasDict] at h
theorem depthAll_nod : ∀ xs : List PyData, PyData.hasDictAll xs = false → PyData.depthAll xs ≤ nodAll xs
  | [], _ => Nat.zero_le _
  | x :: xs, h => by
    have h' : x.hasDict = false ∧ PyData.hasDictAll xs = false := by simpa [PyData.hasDictAll] using h
    have a := depth_nod x h'.1
    have b := depthAll_nod xs h'.2
    show max x.depth (PyData.depthAll xs) ≤ nod x + nodAll xs
    omega
end
theorem shows_of {d : PyData} (h : fine d = true) (hn : nod d ≤ 50000) (hd : d.depth ≤ 60) : Shows d := by
  obtain ⟨a, b⟩ := fine_show d h
  refine ⟨a, ?_, hd⟩
  rw [sizeLine_eq]
  omega

/-! ### flat lists of data -/
/-- an int, or None -/
def vO : Option Int → V
  | none => .non
  | some i => .int i
def dO : Option Int → PyData
  | none => .none
  | some i => .int i
theorem dpa_opts {K : PySem.W.Frag} {H : Hp} : ∀ ws : List (Option Int), DpAll K H (ws.map vO) (ws.map dO)
  | [] => .nil
  | none :: ws => .cons .non (dpa_opts ws)
  | some i :: ws => .cons (.int i) (dpa_opts ws)
theorem nodAll_map {α : Type} {f : α → PyData} (h : ∀ x, nod (f x) = 1) : ∀ xs : List α, nodAll (xs.map f) = xs.length
  | [] => rfl
  | x :: xs => by
    show nod (f x) + nodAll (xs.map f) = xs.length + 1
    rw [h x, nodAll_map h xs]
    omega
theorem fineAll_map {α : Type} {f : α → PyData} : ∀ xs : List α, (∀ x ∈ xs, fine (f x) = true) → fineAll (xs.map f) = true
  | [], _ => rfl
  | x :: xs, h => by
    show (fine (f x) && fineAll (xs.map f)) = true
    rw [h x List.mem_cons_self, fineAll_map xs fun y hy => h y (List.mem_cons_of_mem _ hy)] <;> rfl
theorem depthAll_map {α : Type} {f : α → PyData} {k : Nat} : ∀ xs : List α, (∀ x ∈ xs, (f x).depth ≤ k) → PyData.depthAll (xs.map f) ≤ k
  | [], _ => Nat.zero_le _
  | x :: xs, h => by
    show max (f x).depth (PyData.depthAll (xs.map f)) ≤ k
    exact Nat.max_le.mpr ⟨h x List.mem_cons_self, depthAll_map xs fun y hy => h y (List.mem_cons_of_mem _ hy)⟩
theorem canAll_map {α : Type} {f : α → PyData} : ∀ xs : List α, (∀ x ∈ xs, (f x).canLay0 = true) → PyData.canLayAll0 (xs.map f) = true
  | [], _ => by simp [PyData.canLayAll0]
  | x :: xs, h => by simp [PyData.canLayAll0, h x List.mem_cons_self, canAll_map xs fun y hy => h y (List.mem_cons_of_mem _ hy)]
theorem dO_depth (o : Option Int) : (dO o).depth = 0 := by cases o <;> rfl
theorem dO_nod (o : Option Int) : nod (dO o) = 1 := by cases o <;> rfl

/-! ### what agreeing and straying tell -/
def agree (ns : List Int) (ws : List (Option Int)) (n : Int) : List Nat := (List.range ws.length).filter fun i => decide (vO (ws.getD i none) = .int ((rests ns n).getD i 0))
def stray (ns : List Int) (ws : List (Option Int)) (n : Int) : List Nat := (List.range ws.length).filter fun i => (!decide (vO (ws.getD i none) = .non)) && !decide (vO (ws.getD i none) = .int ((rests ns n).getD i 0))
def sp_lanes (r : List Int → List (Option Int) → Int → List Nat) (K : PySem.W.Frag) : Sp := fun vs H Q _ => ∃ (t p : Addr) (ns : List Int) (ws : List (Option Int)) (n : Int), vs = [.ref t, .ref p, .int n] ∧ SqT K H t (ns.map V.int) ∧ SqT K H p (ws.map vO) ∧
  IsMach ns ∧ ws.length = ns.length ∧ ∀ (l : Addr) (H' : Hp), Same H H' → H l = none → H' l = some (.tup ((r ns ws n).map fun i => V.int (i : Nat))) → Q (.ref l) H'
def sp_agreeing (K : PySem.W.Frag) : Sp := sp_lanes agree K
def sp_straying (K : PySem.W.Frag) : Sp := sp_lanes stray K
end Sx
namespace Sx
open PySem PySem.Spec PyProof.Rows L2

/-! ### zip of three tuples -/
def ItzT3 (K : PySem.W.Frag) (a b c : Addr) : It where
  go := fun i H => ∃ (xs ys zs : List V) (x y z : V), SqT K H a xs ∧ SqT K H b ys ∧ SqT K H c zs ∧ xs[i]? = some x ∧ ys[i]? = some y ∧ zs[i]? = some z
  yld := fun i H v H1 => ∃ T x y z, v = .ref T ∧ H T = none ∧ H1 = upd H T (.tup [x, y, z]) ∧ (∀ xs, SqT K H a xs → xs[i]? = some x) ∧ (∀ ys, SqT K H b ys → ys[i]? = some y) ∧ ∀ zs, SqT K H c zs → zs[i]? = some z
  stop := fun i H => ∃ n : Nat, i = n ∧ ∃ xs ys zs : List V, SqT K H a xs ∧ SqT K H b ys ∧ SqT K H c zs ∧ xs.length = n ∧ ys.length = n ∧ zs.length = n
abbrev cells3 (z TI TO i1 i2 i3 : Addr) : List Addr := [z, TI, TO, i1, i2, i3]
theorem in_cells3 {z TI TO i1 i2 i3 b : Addr} (h : b ∈ cells3 z TI TO i1 i2 i3) : b = z ∨ b = TI ∨ b = TO ∨ b = i1 ∨ b = i2 ∨ b = i3 := by simpa using h
theorem turn_zip3 {P : Program} {w : World} {K : PySem.W.Frag} {elts : List Expr} {kk : Nat} {tpos : Pos} {a b c z TI TO i1 i2 i3 : Addr} (S : ZipSep3 z TI TO i1 i2 i3 [i1, a] [i2, b] [i3, c]) (n1 : a ≠ i1) (n2 : b ≠ i2) (n3 : c ≠ i3) :
    Turn P w K (.Tuple elts kk tpos) (ItzT3 K a b c) (cells3 z TI TO i1 i2 i3) z
      (fun i h => IsZip h z TI TO .none ∧ IsTupOf3 h TI (.ref i1) (.ref i2) (.ref i3) ∧ (∃ x y u, IsTupOf3 h TO x y u) ∧ h.IsTupleIter i1 a i ∧ h.IsTupleIter i2 b i ∧ h.IsTupleIter i3 c i) where
  mem := List.mem_cons_self
  obj := by
    rintro i h ⟨hz, hTI, ⟨x, y, u, hTO⟩, ⟨o1, e1, _, d1⟩, ⟨o2, e2, _, d2⟩, ⟨o3, e3, _, d3⟩⟩ b hb
    rcases in_cells3 hb with q | q | q | q | q | q <;> subst q
    · exact ⟨_, hz, fun v q => nomatch q⟩
    · exact ⟨_, hTI, fun v q => nomatch q⟩
    · exact ⟨_, hTO, fun v q => nomatch q⟩
    · exact ⟨o1, e1, fun v q => by rw [d1] at q; cases q⟩
    · exact ⟨o2, e2, fun v q => by rw [d2] at q; cases q⟩
    · exact ⟨o3, e3, fun v q => by rw [d3] at q; cases q⟩
  keep := by
    rintro i h h' ⟨hz, hTI, ⟨x, y, u, hTO⟩, h1, h2, h3⟩ k
    exact ⟨k z (by simp) _ hz, k TI (by simp) _ hTI, ⟨x, y, u, k TO (by simp) _ hTO⟩, h1.at fun o q => k i1 (by simp) o q, h2.at fun o q => k i2 (by simp) o q, h3.at fun o q => k i3 (by simp) o q⟩
  item := by
    intro X hP hw hK hc i pins s σ H E I hf st hg
    subst hP hw hK
    obtain ⟨hz, hTI, ⟨x0, y0, z0, hTO⟩, h1, h2, h3⟩ := st
    obtain ⟨xs, ys, zs, x, y, u, qx, qy, qz, hx, hy, hu⟩ := hg
    obtain ⟨l1, r1, p1, _⟩ := I.tuple qx
    obtain ⟨l2, r2, p2, _⟩ := I.tuple qy
    obtain ⟨l3, r3, p3, _⟩ := I.tuple qz
    obtain ⟨v1, e1, rv1⟩ := r1.get hx
    obtain ⟨v2, e2, rv2⟩ := r2.get hy
    obtain ⟨v3, e3, rv3⟩ := r3.get hu
    have hh : X.A.in1.handled = none := I.ok.hd hc
    have g1 : l1.toArray[i]? = some v1 := by simpa using e1
    have g2 : l2.toArray[i]? = some v2 := by simpa using e2
    have g3 : l3.toArray[i]? = some v3 := by simpa using e3
    have t1 := (Array.getElem?_eq_some_iff.mp g1).1
    have t2 := (Array.getElem?_eq_some_iff.mp g2).1
    have t3 := (Array.getElem?_eq_some_iff.mp g3).1
    have hzl : z < s.heap.objs.size := Heap.lt_size hz
    refine wpAny_pyNext_zipD3_item S (Draws.tuple hh i1 a n1 l1.toArray) (Draws.tuple hh i2 b n2 l2.toArray) (Draws.tuple hh i3 c n3 l3.toArray) hz hTI hTO ⟨h1, p1⟩ ⟨h2, p2⟩ ⟨h3, p3⟩ t1 t2 t3 fun w1 w2 w3 h' tk y1 y2 y3 b1 b2 d1 d2 d3 hT hsz hk => ?_
    obtain rfl : w1 = v1 := Option.some.inj (y1.symm.trans g1)
    obtain rfl : w2 = v2 := Option.some.inj (y2.symm.trans g2)
    obtain rfl : w3 = v3 := Option.some.inj (y3.symm.trans g3)
    refine ⟨_, rfl, wpAny_letOwnedTupleGo_zip (s := { s with heap := h', toks := tk }) b1 fun h'' z'' sb => ?_⟩
    have hT2 : h''.get? s.heap.objs.size = some { cls := .type "tuple", data := .seq #[w1, w2, w3] } := (sb.2 _ (Nat.ne_of_gt hzl)).trans hT
    have new : ObjOk X.prog X.w (upd H s.heap.objs.size (.tup [x, y, u])) h'' s.heap.objs.size (.tup [x, y, u]) :=
      ⟨(show 3 ≤ sizeLine by decide), [w1, w2, w3], .cons rv1 (.cons rv2 (.cons rv3 .nil)), ⟨_, hT2, rfl, _, rfl⟩⟩
    have I1 : Inv X pins σ (upd H s.heap.objs.size (.tup [x, y, u])) { s with heap := h'', toks := tk } :=
      I.turnedNew (ch := cells3 z TI TO i1 i2 i3) (fun e o hb q => (sb.2 e (fun q' => hb (by simp [q']))).trans (hk e o (fun q' => hb (by simp [q'])) (fun q' => hb (by simp [q'])) (fun q' => hb (by simp [q'])) (fun q' => hb (by simp [q'])) (fun q' => hb (by simp [q'])) q)) hf (Nat.le_refl _) new
    refine ⟨.ref s.heap.objs.size, _, I1, rfl, ⟨_, x, y, u, rfl, I.hok.fresh (Nat.le_refl _), rfl, fun l hl => by rw [I.tuple_inj hl qx]; exact hx, fun l hl => by rw [I.tuple_inj hl qy]; exact hy, fun l hl => by rw [I.tuple_inj hl qz]; exact hu⟩, ⟨z'', ?_, ⟨w1, w2, w3, ?_⟩, ?_, ?_, ?_⟩, fun e hcm => ?_⟩
    · exact (sb.2 _ S.TIz).trans (hk _ _ S.TIz S.TITO S.TIi1 S.TIi2 S.TIi3 hTI)
    · exact (sb.2 _ S.TOz).trans b2
    · exact d1.1.at fun o q => (sb.2 _ (Ne.symm S.zi1)).trans q
    · exact d2.1.at fun o q => (sb.2 _ (Ne.symm S.zi2)).trans q
    · exact d3.1.at fun o q => (sb.2 _ (Ne.symm S.zi3)).trans q
    · have hlt : e < s.heap.objs.size := by
        rcases in_cells3 hcm with q | q | q | q | q | q <;> subst q
        · exact hzl
        · exact Heap.lt_size hTI
        · exact Heap.lt_size hTO
        · obtain ⟨_, q, _⟩ := h1
          exact Heap.lt_size q
        · obtain ⟨_, q, _⟩ := h2
          exact Heap.lt_size q
        · obtain ⟨_, q, _⟩ := h3
          exact Heap.lt_size q
      rw [upd_ne (Nat.ne_of_lt hlt)]
      exact (hf e hcm).1
  done := by
    intro X hP hw hK hc i pins s σ H E I hf st hg
    subst hP hw hK
    obtain ⟨hz, hTI, ⟨x0, y0, z0, hTO⟩, h1, h2, h3⟩ := st
    obtain ⟨n, rfl, xs, ys, zs, qx, qy, qz, e1, e2, e3⟩ := hg
    obtain ⟨l1, r1, p1, _⟩ := I.tuple qx
    obtain ⟨l2, r2, p2, _⟩ := I.tuple qy
    obtain ⟨l3, r3, p3, _⟩ := I.tuple qz
    have hh : X.A.in1.handled = none := I.ok.hd hc
    have f1 : i = l1.toArray.size := by rw [List.size_toArray, ← r1.length, e1]
    have f2 : i = l2.toArray.size := by rw [List.size_toArray, ← r2.length, e2]
    have f3 : i = l3.toArray.size := by rw [List.size_toArray, ← r3.length, e3]
    exact wpAny_pyNext_zipD3_end S (Draws.tuple hh i1 a n1 l1.toArray) (Draws.tuple hh i2 b n2 l2.toArray) (Draws.tuple hh i3 c n3 l3.toArray) hz hTI hTO ⟨h1, p1⟩ ⟨h2, p2⟩ ⟨h3, p3⟩ (Nat.le_of_eq f1) (Nat.le_of_eq f2) (Nat.le_of_eq f3) (.inl f1) fun h' tk hk =>
      ⟨rfl, I.turnedL (t' := tk) (ch := cells3 z TI TO i1 i2 i3) (fun e o hb q => hk e o (fun q' => hb (by simp [q'])) (fun q' => hb (by simp [q'])) (fun q' => hb (by simp [q'])) (fun q' => hb (by simp [q'])) (fun q' => hb (by simp [q'])) q) hf⟩
  self := fun A i s Q E st h => wpAny_pyIter_zip st.1 h
def iZip3T (K : PySem.W.Frag) (ta : TA) : TI := fun σ H R => ta σ H fun vs H1 => ∃ a b c xs ys zs, vs = [.ref a, .ref b, .ref c] ∧ SqT K H1 a xs ∧ SqT K H1 b ys ∧ SqT K H1 c zs ∧ R (ItzT3 K a b c) H1
theorem pi_zip3T {X : Cx} {e e2 e3 : Expr} {ta : TA} {p pos tpos : Pos} {elts : List Expr} {kk : Nat} (hg : Gl X "zip") (hm : X.mg "zip" = none) (ha : PA X [e, e2, e3] ta)
    (hs : starEach [e, e2, e3] X.env = (false, eval e X.env) :: starEach [e2, e3] X.env := by rfl) (hpl : (backTo pos (starEach [e2, e3] X.env)).any (·.1) = false := by rfl) :
    PI X (.Tuple elts kk tpos) (.Call (.Name "zip" p) [e, e2, e3] [] pos) (iZip3T X.K ta) := by
  refine ⟨fun pins s σ H R I h => Call_ (ld_blt I hg hm PyProof.Rows.boot_zip (PyProof.Rows.callWith_type1 (thn (ha.run pos pins s σ H _ I h) ?_) hs hpl))⟩
  rintro us s1 ⟨vs, H1, I1, r1, a, b, c, xs, ys, zs, rfl, qx, qy, qz, q⟩
  cases r1 with
  | cons ra r1 =>
    cases r1 with
    | cons rb r1 =>
      cases r1 with
      | cons rc r1 =>
        cases r1
        cases ra
        cases rb
        cases rc
        obtain ⟨l1, r1, p1, _⟩ := I1.tuple qx
        obtain ⟨l2, r2, p2, _⟩ := I1.tuple qy
        obtain ⟨l3, r3, p3, _⟩ := I1.tuple qz
        refine zip_begins3 (begins_tuple a l1.toArray) (begins_tuple b l2.toArray) (begins_tuple c l3.toArray) p1 p2 p3 fun h' hz hTI hTO g1 g2 g3 hsz hk => wpAny_pyIter_zip hz ?_
        have I2 : Inv X pins σ H1 { s1 with heap := h' } := I1.kept (t' := s1.toks) hk
        have lo : ∀ {t : Addr}, t < s1.heap.objs.size → ∀ b ∈ [t], b < s1.heap.objs.size := fun h b hb => by
          rw [List.mem_singleton.mp hb]
          exact h
        refine ⟨s1.heap.objs.size + 5, cells3 (s1.heap.objs.size + 5) (s1.heap.objs.size + 3) (s1.heap.objs.size + 4) s1.heap.objs.size (s1.heap.objs.size + 1) (s1.heap.objs.size + 2), _, _, H1, rfl, I2,
          turn_zip3 (zip_sep3 (lo p1.lt) (lo p2.lt) (lo p3.lt)) (Nat.ne_of_lt p1.lt) (Nat.ne_of_lt (Nat.lt_succ_of_lt p2.lt)) (Nat.ne_of_lt (Nat.lt_succ_of_lt (Nat.lt_succ_of_lt p3.lt))), ⟨hz, hTI, ⟨_, _, _, hTO⟩, ⟨_, g1, rfl, rfl⟩, ⟨_, g2, rfl, rfl⟩, ⟨_, g3, rfl, rfl⟩⟩, fun e he => ?_, q⟩
        have hle : s1.heap.objs.size ≤ e := by
          rcases in_cells3 he with q | q | q | q | q | q <;> rw [q]
          all_goals first | exact Nat.le_refl _ | exact Nat.le_add_right _ _
        exact I1.fpOk hle (I1.hok.fresh hle)
theorem walk_zip3T {K : PySem.W.Frag} {a b c : Addr} {xs ys zs : List V} {n : Nat} (h1 : xs.length = n) (h2 : ys.length = n) (h3 : zs.length = n) : Walk (ItzT3 K a b c) n (fun H => SqT K H a xs ∧ SqT K H b ys ∧ SqT K H c zs)
    (fun i H v H1 => ∃ T x y z, v = .ref T ∧ H T = none ∧ H1 = upd H T (.tup [x, y, z]) ∧ xs[i]? = some x ∧ ys[i]? = some y ∧ zs[i]? = some z) := by
  refine ⟨fun i H hi q => ⟨xs, ys, zs, xs[i], ys[i], zs[i], q.1, q.2.1, q.2.2, List.getElem?_eq_getElem (by omega), List.getElem?_eq_getElem (by omega), List.getElem?_eq_getElem (by omega)⟩, fun H q => ⟨n, rfl, xs, ys, zs, q.1, q.2.1, q.2.2, h1, h2, h3⟩, ?_⟩
  rintro i H v H1 _ q ⟨T, x, y, z, e1, e2, e3, e4, e5, e6⟩
  exact ⟨T, x, y, z, e1, e2, e3, e4 xs q.1, e5 ys q.2.1, e6 zs q.2.2⟩
def sp__law_is_split (K : PySem.W.Frag) : Sp := fun vs H Q _ => ∃ (H0 : Hp) (b g t : Addr) (ns : List Int) (n : Int), vs = [.ref b, .ref t, .int n] ∧ Bs H0 H b g ∧ SqT K H0 t (ns.map V.int) ∧ IsMach ns ∧ ∀ H', Bs H0 H' b g → Q (.bl true) H'
end Sx
namespace Sx
open PySem PySem.Spec PyProof.Rows L2

/-! ### lists of places -/
def nI (l : List Nat) : List V := l.map fun i => V.int (i : Nat)
def dI (l : List Nat) : List PyData := l.map fun i => PyData.int (i : Nat)
theorem dpa_nI {K : PySem.W.Frag} {H : Hp} : ∀ l : List Nat, DpAll K H (nI l) (dI l)
  | [] => .nil
  | i :: l => .cons (.int _) (dpa_nI l)
theorem fine_int {i : Int} (h : i.natAbs < 10 ^ 120) : fine (.int i) = true := by
  have h2 : i.natAbs < big := Nat.lt_trans h (by decide +kernel)
  simpa [fine] using h2
theorem fineAll_dI {l : List Nat} (h : ∀ i ∈ l, i < 1000000) : fineAll (dI l) = true := fineAll_map l fun i hi => fine_int (by
  have := h i hi
  show i < 10 ^ 120
  exact Nat.lt_trans this (by decide +kernel))
theorem nodAll_dI (l : List Nat) : nodAll (dI l) = l.length := nodAll_map (fun _ => rfl) l
theorem depthAll_dI (l : List Nat) : PyData.depthAll (dI l) ≤ 0 := depthAll_map l fun _ _ => Nat.le_refl 0
theorem inV_nI (i : Nat) : ∀ l : List Nat, inV (.int (i : Nat)) (nI l) = decide (i ∈ l)
  | [] => by simp [inV, nI]
  | j :: l => by
    have e := inV_nI i l
    have h : inV (.int (i : Nat)) (nI (j :: l)) = (eqV (.int (j : Nat)) (.int (i : Nat)) || inV (.int (i : Nat)) (nI l)) := rfl
    rw [h, e]
    have e2 : eqV (.int (j : Nat)) (.int (i : Nat)) = decide (i = j) := by
      by_cases q : i = j
      · subst q
        simp [eqV]
      · have q2 : ¬ ((j : Nat) : Int) = ((i : Nat) : Int) := by omega
        simp [eqV, q, q2]
    rw [e2]
    simp
theorem flat_nI (l : List Nat) : (nI l).all flatV = true := by
  unfold nI
  rw [List.all_map, List.all_eq_true]
  intro i _
  rfl

/-! ### data of two rows -/
theorem shows1 {ds : List PyData} (h : fineAll ds = true) (hn : nodAll ds ≤ 10000) (hd : PyData.depthAll ds ≤ 9) : Shows (.tuple ds) ∧ Shows (.list ds) := by
  have e1 : nod (.tuple ds) = 1 + nodAll ds := rfl
  have e2 : PyData.depth (.tuple ds) = PyData.depthAll ds + 1 := rfl
  have e3 : nod (.list ds) = 1 + nodAll ds := rfl
  have e4 : PyData.depth (.list ds) = PyData.depthAll ds + 1 := rfl
  exact ⟨shows_of h (by omega) (by omega), shows_of h (by omega) (by omega)⟩
theorem shows2 {d1 d2 : PyData} (h1 : fine d1 = true) (h2 : fine d2 = true) (n1 : nod d1 ≤ 10000) (n2 : nod d2 ≤ 10000) (e1 : d1.depth ≤ 9) (e2 : d2.depth ≤ 9) : Shows (.list [d1, d2]) := by
  refine shows_of ?_ ?_ ?_
  · show (fine d1 && (fine d2 && true)) = true
    rw [h1, h2] <;> rfl
  · show 1 + (nod d1 + (nod d2 + 0)) ≤ 50000
    omega
  · show max d1.depth (max d2.depth 0) + 1 ≤ 60
    omega
/-- a row's facts, for shows2 -/
structure Row (d : PyData) : Prop where
  f : fine d = true
  n : nod d ≤ 10000
  d : d.depth ≤ 9
theorem Row.one {d : PyData} (a : Row d) : Shows d := shows_of a.f (by have := a.n; omega) (by have := a.d; omega)
theorem Row.tup {ds : List PyData} (h : fineAll ds = true) (hn : nodAll ds ≤ 9000) (hd : PyData.depthAll ds ≤ 8) : Row (.tuple ds) :=
  ⟨h, (by show 1 + nodAll ds ≤ 10000; omega), (by show PyData.depthAll ds + 1 ≤ 9; omega)⟩
theorem Row.lst {ds : List PyData} (h : fineAll ds = true) (hn : nodAll ds ≤ 9000) (hd : PyData.depthAll ds ≤ 8) : Row (.list ds) :=
  ⟨h, (by show 1 + nodAll ds ≤ 10000; omega), (by show PyData.depthAll ds + 1 ≤ 9; omega)⟩
theorem Row.two {d1 d2 : PyData} (a : Row d1) (b : Row d2) : Shows (.list [d1, d2]) := shows2 a.f b.f a.n b.n a.d b.d
theorem Row.mach {ns : List Int} (hm : IsMach ns) : Row (.tuple (ns.map PyData.int)) := by
  refine .tup (fineAll_map ns fun n hn => fine_int ?_) ?_ (depthAll_map ns fun _ _ => Nat.zero_le _)
  · have := hm.mod n hn
    exact Nat.lt_trans (show n.natAbs < 1000001 by omega) (by decide +kernel)
  · rw [nodAll_map (fun _ => rfl)]
    have := hm.ten
    omega
theorem Row.ints {ns : List Int} (h : ∀ n ∈ ns, n.natAbs < 10 ^ 120) (hl : ns.length ≤ 9000) : Row (.tuple (ns.map PyData.int)) := by
  refine .tup (fineAll_map ns fun n hn => fine_int (h n hn)) ?_ (depthAll_map ns fun _ _ => Nat.zero_le _)
  rw [nodAll_map (fun _ => rfl)]
  exact hl
/-- a word's items -/
def IsWord (ws : List (Option Int)) : Prop := ws.length ≤ 10 ∧ ∀ r, some r ∈ ws → 0 ≤ r ∧ r < 1000000
theorem Row.word {ws : List (Option Int)} (h : IsWord ws) : Row (.tuple (ws.map dO)) := by
  refine .tup (fineAll_map ws fun o ho => ?_) ?_ (depthAll_map ws fun o _ => by rw [dO_depth]; exact Nat.zero_le _)
  · cases o with
    | none => rfl
    | some r =>
      have := h.2 r ho
      exact fine_int (Nat.lt_trans (show r.natAbs < 1000000 by omega) (by decide +kernel))
  · rw [nodAll_map dO_nod]
    have := h.1
    omega
theorem Row.places {l : List Nat} (h : ∀ i ∈ l, i < 10) (hl : l.length ≤ 10) : Row (.tuple (dI l)) := by
  refine .tup (fineAll_dI fun i hi => by have := h i hi; omega) ?_ (Nat.le_trans (depthAll_dI l) (by decide))
  rw [nodAll_dI]
  omega

/-! ### the lanes that speak, agree, stray -/
def spoke (ws : List (Option Int)) (k : Nat) : List Nat := (List.range k).filter fun i => !decide (vO (ws.getD i none) = .non)
def fitOf (ns : List Int) (ws : List (Option Int)) (n : Int) (l : List Nat) : List Nat := l.filter fun i => decide (vO (ws.getD i none) = .int (n % ns.getD i 0))
def unfitOf (l f : List Nat) : List Nat := l.filter fun i => !inV (.int (i : Nat)) (nI f)
theorem rests_at {ns : List Int} {n : Int} {i : Nat} (h : i < ns.length) : (rests ns n).getD i 0 = n % ns.getD i 0 := by
  unfold rests
  rw [List.getD_eq_getElem?_getD, List.getD_eq_getElem?_getD, List.getElem?_map, List.getElem?_eq_getElem h] <;> rfl
theorem fit_eq {ns : List Int} {ws : List (Option Int)} {n : Int} (h : ws.length = ns.length) : fitOf ns ws n (spoke ws ns.length) = agree ns ws n := by
  unfold fitOf spoke agree
  rw [List.filter_filter, h]
  refine List.filter_congr fun i hi => ?_
  rw [rests_at (List.mem_range.mp hi)]
  generalize ws.getD i none = o
  cases o <;> simp [vO]
theorem unfit_eq {ns : List Int} {ws : List (Option Int)} {n : Int} (h : ws.length = ns.length) : unfitOf (spoke ws ns.length) (agree ns ws n) = stray ns ws n := by
  unfold unfitOf spoke
  rw [List.filter_filter]
  unfold stray
  rw [h]
  refine List.filter_congr fun i hi => ?_
  rw [inV_nI]
  have e : decide (i ∈ agree ns ws n) = decide (vO (ws.getD i none) = .int ((rests ns n).getD i 0)) := by
    unfold agree
    rw [h]
    rw [Bool.eq_iff_iff]
    simp only [decide_eq_true_eq, List.mem_filter]
    exact ⟨fun q => q.2, fun q => ⟨hi, q⟩⟩
  rw [e, Bool.and_comm]
theorem lanes_small {p : Nat → Bool} {k : Nat} (hk : k ≤ 10) : (∀ i ∈ (List.range k).filter p, i < 10) ∧ ((List.range k).filter p).length ≤ 10 := by
  constructor
  · intro i hi
    have := List.mem_range.mp (List.mem_filter.mp hi).1
    omega
  · have := List.length_filter_le p (List.range k)
    rw [List.length_range] at this
    omega
theorem getD_some {α : Type} {xs : List α} {i : Nat} (d : α) (h : i < xs.length) : xs[i]? = some (xs.getD i d) := by
  rw [List.getD_eq_getElem?_getD, List.getElem?_eq_getElem h] <;> rfl
theorem walk_range0 {n : Nat} : Walk (Itr 0 n) n (fun _ => True) (fun i H x H1 => H1 = H ∧ x = .int (i : Nat)) := by
  refine Walk.mono walk_range (fun _ h => h) ?_
  rintro i H x H1 _ _ ⟨rfl, rfl⟩
  exact ⟨rfl, congrArg V.int (Int.zero_add _)⟩
theorem range_at {k i z : Nat} (h : (List.range k)[i]? = some z) : i = z ∧ i < k := by
  have hi := (List.getElem?_eq_some_iff.mp h).1
  rw [List.length_range] at hi
  rw [List.getElem?_range hi] at h
  exact ⟨Option.some.inj h, hi⟩

/-- what stands in H and is no part of the box, known to H0 from now on -/
theorem Bs.own {H0 H : Hp} {b g p : Addr} {o : HO} (B : Bs H0 H b g) (e : H p = some o) (pb : p ≠ b) (pg : p ≠ g) : Bs (upd H0 p o) H b g := by
  refine ⟨?_, by rw [upd_ne pb.symm]; exact B.nb, by rw [upd_ne pg.symm]; exact B.ng, B.ls, B.dc⟩
  intro c x h
  by_cases hc : c = p
  · subst hc
    rw [upd_same] at h
    cases h
    exact e
  · rw [upd_ne hc] at h
    exact B.sub c x h

/-! ### equal rows of ints -/
theorem eqvAll_ints : ∀ xs ys : List Int, PyData.eqvAll (xs.map PyData.int) (ys.map PyData.int) = decide (xs = ys)
  | [], [] => by simp [PyData.eqvAll]
  | [], _ :: _ => by simp [PyData.eqvAll]
  | _ :: _, [] => by simp [PyData.eqvAll]
  | x :: xs, y :: ys => by
    have e := eqvAll_ints xs ys
    simp only [List.map_cons, PyData.eqvAll, PyData.eqv, e]
    by_cases h : x = y <;> simp [h]
theorem eqv_tup_ints (xs ys : List Int) : PyData.eqv (.tuple (xs.map PyData.int)) (.tuple (ys.map PyData.int)) = decide (xs = ys) := by
  simp only [PyData.eqv, eqvAll_ints]
theorem shaped_tup_ints (ns : List Int) : SeqAt.shaped (.tuple (ns.map PyData.int)) = true := shaped_ints ns
theorem rests_alike (ns : List Int) (a b : Int) : decide (rests ns a = rests ns b) = (ns.filter fun m => !decide (V.int ((b - a) % m) = V.int 0)).isEmpty := by
  rw [Bool.eq_iff_iff, decide_eq_true_eq, List.isEmpty_iff, List.filter_eq_nil_iff]
  have key : ∀ m : Int, (a % m = b % m) ↔ (b - a) % m = 0 := by
    intro m
    constructor
    · intro h
      exact Int.emod_eq_zero_of_dvd (Int.dvd_of_emod_eq_zero (Int.emod_eq_emod_iff_emod_sub_eq_zero.mp h.symm))
    · intro h
      exact (Int.emod_eq_emod_iff_emod_sub_eq_zero.mpr h).symm
  unfold rests
  constructor
  · intro h m hm
    have h2 := List.map_inj_left.mp h m hm
    simp [(key m).mp h2]
  · intro h
    refine List.map_inj_left.mpr fun m hm => (key m).mpr ?_
    have := h m hm
    simpa using this
theorem rSlA_of {K : PySem.W.Frag} {lo hi : Option Int} {H : Hp} {Q : VK} {a : Addr} {xs : List V} (h : SqT K H a xs) (k : ∀ (o : Addr) (H1 : Hp), SqT K H1 o (cutV xs lo hi) → Same H H1 → Q (.ref o) H1) : rSlA K (.ref a) lo hi H Q := by
  refine ⟨a, xs, rfl, h, fun hw => k a H ?_ (Same.refl H), fun _ p np => k p _ (.of upd_same) (same_new np)⟩
  have e : cutV xs lo hi = xs := by
    unfold cutV
    rw [hw.1, hw.2, List.drop_zero, Nat.sub_zero, List.take_length]
  rw [e]
  exact h
theorem mem_cutV {xs : List V} {lo hi : Option Int} {x : V} (h : x ∈ cutV xs lo hi) : x ∈ xs := List.mem_of_mem_drop (List.mem_of_mem_take h)
def op3 (j : Nat) (a b : Int) : Int := match j with | 0 => a + b | 1 => a - b | _ => a * b
theorem op3_rests (ns : List Int) (j : Nat) (a b : Int) : rests ns (op3 j a b) = ns.map fun m => op3 j (a % m) (b % m) % m := by
  unfold rests
  refine List.map_congr_left fun m _ => ?_
  match j with
  | 0 => exact Int.add_emod a b m
  | 1 => exact Int.sub_emod a b m
  | _ + 2 => exact Int.mul_emod a b m
theorem op3_at (j : Nat) (hj : j < 3) (a b : Int) : [V.int (a + b), V.int (a - b), V.int (a * b)][j]? = some (V.int (op3 j a b)) := by
  match j, hj with
  | 0, _ => rfl
  | 1, _ => rfl
  | 2, _ => rfl
end Sx
namespace K2
open PySem PySem.Spec PyProof.Rows L2 Sx
def topS (i : Nat) : Stmt := PySem.Challenge.pw_straylanes_k02_whole_rests_of_numbers.main.body.getD i (.Pass ⟨0, 0, 0, 0⟩)
abbrev s_rests_of : Stmt := topS 1
theorem sc_rests_of : FnScope ["machine", "number", "modulus"] ["machine", "number"] (defScope s_rests_of) := ⟨rfl, rfl, rfl, by decide +kernel, rfl, by decide +kernel, by decide +kernel⟩
abbrev s_agreeing : Stmt := topS 2
theorem sc_agreeing : FnScope ["machine", "word", "number", "rests", "lane", "item"] ["machine", "word", "number"] (defScope s_agreeing) := ⟨rfl, rfl, rfl, by decide +kernel, rfl, by decide +kernel, by decide +kernel⟩
abbrev s_straying : Stmt := topS 3
theorem sc_straying : FnScope ["machine", "word", "number", "rests", "lane", "item"] ["machine", "word", "number"] (defScope s_straying) := ⟨rfl, rfl, rfl, by decide +kernel, rfl, by decide +kernel, by decide +kernel⟩
abbrev s__law_box : Stmt := topS 5
theorem sc__law_box : FnScope ["script", "mark", "marks", "stirred", "cell"] ["script"] (defScope s__law_box) := ⟨rfl, rfl, rfl, by decide +kernel, rfl, by decide +kernel, by decide +kernel⟩
abbrev s__law_draw : Stmt := topS 6
theorem sc__law_draw : FnScope ["box", "many", "great", "count", "found", "mark"] ["box", "many"] (defScope s__law_draw) := ⟨rfl, rfl, rfl, by decide +kernel, rfl, by decide +kernel, by decide +kernel⟩
abbrev s__law_pick : Stmt := topS 7
theorem sc__law_pick : FnScope ["box", "items"] ["box", "items"] (defScope s__law_pick) := ⟨rfl, rfl, rfl, by decide +kernel, rfl, by decide +kernel, by decide +kernel⟩
abbrev s__law_great : Stmt := topS 8
theorem sc__law_great : FnScope ["box", "many", "found", "turn"] ["box", "many"] (defScope s__law_great) := ⟨rfl, rfl, rfl, by decide +kernel, rfl, by decide +kernel, by decide +kernel⟩
abbrev s__law_number : Stmt := topS 9
theorem sc__law_number : FnScope ["box", "way", "found"] ["box"] (defScope s__law_number) := ⟨rfl, rfl, rfl, by decide +kernel, rfl, by decide +kernel, by decide +kernel⟩
abbrev s__law_machine : Stmt := topS 10
theorem sc__law_machine : FnScope ["box", "way", "many", "own", "lane"] ["box"] (defScope s__law_machine) := ⟨rfl, rfl, rfl, by decide +kernel, rfl, by decide +kernel, by decide +kernel⟩
abbrev s__law_rest : Stmt := topS 11
theorem sc__law_rest : FnScope ["number", "modulus"] ["number", "modulus"] (defScope s__law_rest) := ⟨rfl, rfl, rfl, by decide +kernel, rfl, by decide +kernel, by decide +kernel⟩
abbrev s__law_is_split : Stmt := topS 12
theorem sc__law_is_split : FnScope ["box", "machine", "number", "word", "modulus", "spoken", "fit", "unfit", "known", "told", "rest", "lane"] ["box", "machine", "number"] (defScope s__law_is_split) := ⟨rfl, rfl, rfl, by decide +kernel, rfl, by decide +kernel, by decide +kernel⟩
abbrev s_law : Stmt := topS 13
theorem sc_law : FnScope ["script", "box", "turn", "due", "common", "modulus", "small", "other", "is_one", "third", "machine", "one", "first", "second", "number", "way", "told", "a", "b"] ["script"] (defScope s_law) := ⟨rfl, rfl, rfl, by decide +kernel, rfl, by decide +kernel, by decide +kernel⟩
structure Adr where
  f_rests_of : Addr
  d_rests_of : FuncData
  f_agreeing : Addr
  d_agreeing : FuncData
  f_straying : Addr
  d_straying : FuncData
  f__law_box : Addr
  d__law_box : FuncData
  f__law_draw : Addr
  d__law_draw : FuncData
  f__law_pick : Addr
  d__law_pick : FuncData
  f__law_great : Addr
  d__law_great : FuncData
  f__law_number : Addr
  d__law_number : FuncData
  f__law_machine : Addr
  d__law_machine : FuncData
  f__law_rest : Addr
  d__law_rest : FuncData
  f__law_is_split : Addr
  d__law_is_split : FuncData
  f_law : Addr
  d_law : FuncData
structure Txt (K : PySem.W.Frag) (mg : Str → Option Value) (a : Adr) : Prop where
  rests_of : At K mg "rests_of" s_rests_of ["machine", "number"] a.f_rests_of a.d_rests_of
  agreeing : At K mg "agreeing" s_agreeing ["machine", "word", "number"] a.f_agreeing a.d_agreeing
  straying : At K mg "straying" s_straying ["machine", "word", "number"] a.f_straying a.d_straying
  _law_box : At K mg "_law_box" s__law_box ["script"] a.f__law_box a.d__law_box
  _law_draw : At K mg "_law_draw" s__law_draw ["box", "many"] a.f__law_draw a.d__law_draw
  _law_pick : At K mg "_law_pick" s__law_pick ["box", "items"] a.f__law_pick a.d__law_pick
  _law_great : At K mg "_law_great" s__law_great ["box", "many"] a.f__law_great a.d__law_great
  _law_number : At K mg "_law_number" s__law_number ["box"] a.f__law_number a.d__law_number
  _law_machine : At K mg "_law_machine" s__law_machine ["box"] a.f__law_machine a.d__law_machine
  _law_rest : At K mg "_law_rest" s__law_rest ["number", "modulus"] a.f__law_rest a.d__law_rest
  _law_is_split : At K mg "_law_is_split" s__law_is_split ["box", "machine", "number"] a.f__law_is_split a.d__law_is_split
  law : At K mg "law" s_law ["script"] a.f_law a.d_law
  b_abs : mg "abs" = none
  b_enumerate : mg "enumerate" = none
  b_int : mg "int" = none
  b_len : mg "len" = none
  b_range : mg "range" = none
  b_repr : mg "repr" = none
  b_tuple : mg "tuple" = none
  b_zip : mg "zip" = none
section
variable {P : Program} {w : World} {K : PySem.W.Frag} {mg : Str → Option Value} {base : Heap} {a : Adr}
def g_agreeing_number_word_machine {α : Type} (us ws : List α) : List α := match us, ws with
  | [], [z0, z1, z2] => [z2, z1, z0]
  | _, _ => []
theorem kb_agreeing_number_word_machine (T : Txt K mg a) : KBinds K a.d_agreeing ["machine", "word", "number"] ["number", "word", "machine"] (g_agreeing_number_word_machine (α := Value)) (g_agreeing_number_word_machine (α := V)) := by
  refine Sx.Fun.kb T.agreeing.F (fun _ _ _ _ _ _ us ws hl => ?_) (fun r1 r2 => ?_)
  · unfold g_agreeing_number_word_machine at hl ⊢
    split at hl
    · rfl
    · exact absurd hl (by decide)
  · unfold g_agreeing_number_word_machine
    cases r1 with
    | nil =>
      cases r2 with
      | nil => exact .nil
      | cons q0 r2 =>
        cases r2 with
        | nil => exact .nil
        | cons q1 r2 =>
          cases r2 with
          | nil => exact .nil
          | cons q2 r2 =>
            cases r2 with
            | nil =>
              exact (.cons q2 (.cons q1 (.cons q0 .nil)))
            | cons _ _ => exact .nil
    | cons _ _ => exact .nil
def g_rests_of_number_machine {α : Type} (us ws : List α) : List α := match us, ws with
  | [], [z0, z1] => [z1, z0]
  | _, _ => []
theorem kb_rests_of_number_machine (T : Txt K mg a) : KBinds K a.d_rests_of ["machine", "number"] ["number", "machine"] (g_rests_of_number_machine (α := Value)) (g_rests_of_number_machine (α := V)) := by
  refine Sx.Fun.kb T.rests_of.F (fun _ _ _ _ _ _ us ws hl => ?_) (fun r1 r2 => ?_)
  · unfold g_rests_of_number_machine at hl ⊢
    split at hl
    · rfl
    · exact absurd hl (by decide)
  · unfold g_rests_of_number_machine
    cases r1 with
    | nil =>
      cases r2 with
      | nil => exact .nil
      | cons q0 r2 =>
        cases r2 with
        | nil => exact .nil
        | cons q1 r2 =>
          cases r2 with
          | nil =>
            exact (.cons q1 (.cons q0 .nil))
          | cons _ _ => exact .nil
    | cons _ _ => exact .nil
def g_straying_number_word_machine {α : Type} (us ws : List α) : List α := match us, ws with
  | [], [z0, z1, z2] => [z2, z1, z0]
  | _, _ => []
theorem kb_straying_number_word_machine (T : Txt K mg a) : KBinds K a.d_straying ["machine", "word", "number"] ["number", "word", "machine"] (g_straying_number_word_machine (α := Value)) (g_straying_number_word_machine (α := V)) := by
  refine Sx.Fun.kb T.straying.F (fun _ _ _ _ _ _ us ws hl => ?_) (fun r1 r2 => ?_)
  · unfold g_straying_number_word_machine at hl ⊢
    split at hl
    · rfl
    · exact absurd hl (by decide)
  · unfold g_straying_number_word_machine
    cases r1 with
    | nil =>
      cases r2 with
      | nil => exact .nil
      | cons q0 r2 =>
        cases r2 with
        | nil => exact .nil
        | cons q1 r2 =>
          cases r2 with
          | nil => exact .nil
          | cons q2 r2 =>
            cases r2 with
            | nil =>
              exact (.cons q2 (.cons q1 (.cons q0 .nil)))
            | cons _ _ => exact .nil
    | cons _ _ => exact .nil
theorem ok_rests_of (T : Txt K mg a) : FnOk P w K mg base CX0 1 a.f_rests_of a.d_rests_of ["machine", "number"] (sp_rests_of K) := by
  refine T.rests_of.F.ok sc_rests_of (fun vs H Q E h => ?_) (fun cdv A outer s H vs Q E hr h => ?_)
  · obtain ⟨_, _, _, rfl, _⟩ := h
    rfl
  · have hu := hu_of hr
    obtain ⟨t, ns, n, rfl, hT, hm, q⟩ := h
    refine ⟨_, (pss_one (ps_ret (pe_callTy (show CallR _ _ (rTupS K) from call_tuple_of) (by rfl) T.b_tuple (by decide +kernel) (pa_cons (pe_lc (own := [("modulus", 2)]) rfl sc_rests_of.nd (show PI _ _ _ (iSeq K _) from pi_seq (pv 0)) (blkOk_by (N := ["machine", "number", "modulus"]) (sc := defScope s_rests_of) (by decide +kernel)) (fun _ _ _ _ _ => (pg_name (i := 2) sc_rests_of.nd rfl (by first | exact Or.inl rfl | exact Or.inr rfl))) (fun _ _ _ _ _ => pts_nil) (fun _ _ _ _ _ => (pe_op op_modN (pv 1) (pv 2)))) pa_nil)))), ?_⟩
    refine .inr ⟨_, rfl, t, rfl, ⟨_, hT⟩, fun D hD => ?_⟩
    refine lc_reckon (walk_tup (xs := ns.map V.int)) rfl (fun _ => true) (fun x => match x with | .int m => .int (n % m) | _ => .non) (by rw [List.length_map]; have := hm.ten; omega) hD (fun H1 s => Sx.Same.tup s hT) ?_ ?_
    · rintro i z x H1 H2 hz s1 ⟨rfl, hx⟩
      obtain rfl : z = x := Option.some.inj (hz.symm.trans hx)
      obtain ⟨m, hmem, rfl⟩ := List.mem_map.mp (List.mem_of_getElem? hz)
      have h2 := (hm.mod m hmem).1
      refine ⟨Same.refl _, _, fun Q q => q, rfl, fun Q q => q _ (Same.refl _), fun _ H3 Q _ s3 q => ?_⟩
      refine ⟨_, rfl, _, rfl, n, m, rfl, rfl, (show m ≠ 0 by omega), ?_⟩
      rw [show (fun i j : Int => V.int (i.fmod j)) n m = V.int (n % m) from congrArg V.int (Int.fmod_eq_emod_of_nonneg n (by omega))]
      exact q _ (Same.refl _)
    · intro H1 s1 e1
      refine ⟨D, _, rfl, .inl ⟨.of e1, fun l nl => ?_⟩⟩
      refine q l _ (s1.trans (same_new nl)) (s1.free nl) ?_
      rw [upd_same]
      congr 2
      rw [List.filter_eq_self.mpr (fun _ _ => rfl)]
      unfold rests
      rw [List.map_map, List.map_map] <;> rfl
theorem ok__law_box (T : Txt K mg a) : FnOk P w K mg base CX0 1 a.f__law_box a.d__law_box ["script"] (sp__law_box K) := by
  refine T._law_box.F.ok sc__law_box (fun vs H Q E h => ?_) (fun cdv A outer s H vs Q E hr h => ?_)
  · obtain ⟨_, _, rfl, _⟩ := h
    rfl
  · have hu := hu_of hr
    obtain ⟨s0, ns, rfl, hS, hlen, q⟩ := h
    have ecut : cutV (ns.map V.int) none (some 63) = ns.map V.int := by
      have h1 : (ns.map V.int).length ≤ 63 := by rw [List.length_map]; exact hlen
      unfold cutV
      rw [HT.sIx_none, show HT.sIx (ns.map V.int).length (ns.map V.int).length (some 63) = min 63 (ns.map V.int).length from HT.sIx_nat _ _ 63, Nat.min_eq_right h1]
      show List.take ((ns.map V.int).length - 0) (List.drop 0 (ns.map V.int)) = ns.map V.int
      rw [List.drop_zero, Nat.sub_zero, List.take_length]
    refine ⟨_, (pss_cons (ps_par (i := 2) (j := 3) (by rfl) sc__law_box.nd rfl rfl (by decide) rfl rfl (pa_cons (pe_lc (own := [("cell", 4)]) rfl sc__law_box.nd (show PI _ _ _ (iSeq K _) from pi_seq (pe_slice (show SlR _ (rSlL K) from sl_list) (pv 0) po_none (po_some pe_int))) (blkOk_by (N := ["script", "mark", "marks", "stirred", "cell"]) (sc := defScope s__law_box) (by decide +kernel)) (fun _ _ _ _ _ => (pg_name (i := 4) sc__law_box.nd rfl (by first | exact Or.inl rfl | exact Or.inr rfl))) (fun _ _ _ _ _ => pts_nil) (fun _ _ _ _ _ => (pe_op op_add (pe_op op_mul pe_int (pe_callB call_abs (by rfl) T.b_abs (by decide +kernel) (pa_cons (pv 4) pa_nil))) (pe_callTy call_int1 (by rfl) T.b_int (by decide +kernel) (pa_cons (pe_cmpR op_lt (pv 4) pe_int (nomark _)) pa_nil))))) (pa_cons (pe_op op_add pe_int (pe_callB (show CallR _ _ (rLenS K) from call_len_seq) (by rfl) T.b_len (by decide +kernel) (pa_cons (pv 0) pa_nil))) pa_nil)) (by rfl))
      (pss_cons (ps_for PassesOwn.never rfl (show PI _ _ _ (iSeq K _) from pi_seq (pv 2)) (pg_name (i := 1) sc__law_box.nd rfl (by first | exact Or.inl rfl | exact Or.inr rfl)) (pss_one (ps_set (i := 3) sc__law_box.nd rfl (by first | exact Or.inl rfl | exact Or.inr rfl) (pe_op op_modN (pe_callTy call_int1 (by rfl) T.b_int (by decide +kernel) (pa_cons (pe_op op_add (pe_op op_mul (pv 3) pe_int) (pv 1)) pa_nil)) pe_int))))
      (pss_one (ps_ret (pe_disp (pps_cons pe_str (pe_lc (own := [("mark", 1)]) rfl sc__law_box.nd (show PI _ _ _ (iSeq K _) from pi_seq (pv 2)) (blkOk_by (N := ["script", "mark", "marks", "stirred", "cell"]) (sc := defScope s__law_box) (by decide +kernel)) (fun _ _ _ _ _ => (pg_name (i := 1) sc__law_box.nd rfl (by first | exact Or.inl rfl | exact Or.inr rfl))) (fun _ _ _ _ _ => (pts_one (pt_cmpR op_gt (pv 1) (pe_op op_pow pe_int pe_int) (nomark _)))) (fun _ _ _ _ _ => (pv 1))) (pps_cons pe_str (pv 3) (pps_cons pe_str pe_int pps_nil))) (by rfl) (by rfl) (fun z => by cases z) (by decide)))))), ?_⟩
    -- marks, stirred
    refine .inl ⟨_, rfl, 63, rfl, s0, ns.map V.int, rfl, hS, fun p np => ⟨p, rfl, ⟨_, .of upd_same⟩, fun D hD => ?_⟩⟩
    rw [ecut] at hD ⊢
    have s1 : Same H (upd H p (.lst (ns.map V.int))) := same_new np
    refine lc_reckon (walk_list (xs := ns.map V.int)) (zs := ns) (List.length_map _).symm (fun _ => true) (fun m => .int (2 * (if m < 0 then -m else m) + (if decide (m < 0) then 1 else 0))) (by omega) hD (fun H1 s => .of (s _ _ upd_same)) ?_ ?_
    · rintro i m x H1 H2 hz s2 ⟨rfl, hx⟩
      rw [List.getElem?_map, hz] at hx
      obtain rfl : V.int m = x := Option.some.inj hx
      refine ⟨Same.refl _, _, fun Q q => q, rfl, fun Q q => q _ (Same.refl _), fun _ H3 Q s3 _ q => ?_⟩
      refine ⟨_, rfl, m, rfl, 2, _, rfl, rfl, .inl ⟨by decide, by decide⟩, _, rfl, m, 0, rfl, rfl, .inr ⟨_, rfl, _, _, rfl, rfl, ?_⟩⟩
      exact q _ (Same.refl _)
    intro H1 t1 e1
    rw [List.filter_eq_self.mpr (fun _ _ => rfl)] at e1
    generalize hms : (ns.map fun m : Int => 2 * (if m < 0 then -m else m) + (if decide (m < 0) then 1 else 0)) = ms
    have hml : ms.length = ns.length := by rw [← hms, List.length_map]
    have e2 : H1 D = some (.lst (ms.map V.int)) := by
      rw [e1, ← hms, List.map_map] <;> rfl
    have s3 : Same H H1 := s1.trans t1
    refine ⟨_, rfl, s0, ns.map V.int, rfl, .inl (L2.Same.seq s3 hS), _, _, rfl, rfl, _, _, rfl, ?_⟩
    -- stirred
    refine .inl ⟨_, rfl, D, rfl, ⟨_, .of e2⟩, for_list (K := K) (a := D) (xs := ms.map V.int) (fun i σ H' => ∃ (st : Int) (v : Option V), σ = [some (.ref s0), v, some (.ref D), some (.int st), none] ∧ H' = H1)
      ⟨_, none, rfl, rfl⟩ (fun i σ H' _ ⟨_, _, _, e⟩ => by rw [e]; exact .of e2) ?_ ?_⟩
    · rintro i x σ H' hx ⟨st, v, rfl, rfl⟩
      rw [List.getElem?_map] at hx
      obtain ⟨m, hm, rfl⟩ := Option.map_eq_some_iff.mp hx
      refine ⟨_, rfl, st, 69069, rfl, rfl, .inr ⟨by decide, by decide⟩, _, rfl, _, m, rfl, rfl, .inl ⟨_, rfl, _, 4294967291, rfl, rfl, (show (4294967291 : Int) ≠ 0 by decide), ?_⟩⟩
      exact ⟨_, _, rfl, rfl⟩
    rintro σ H' ⟨st, v, rfl, rfl⟩
    -- the dict
    intro b nb
    have s4 : Same H' (upd H' b (.dK [])) := same_new nb
    refine .inl ⟨_, rfl, D, rfl, ⟨_, .of (s4 _ _ e2)⟩, fun g ng => ?_⟩
    refine lc_reckon (walk_list (xs := ms.map V.int)) (zs := ms) (List.length_map _).symm (fun m => decide (10 ^ 15 < m)) V.int (by omega) ng (fun H2 s => .of (s _ _ (s4 _ _ e2))) ?_ ?_
    · rintro i m x H2 H3 hz s2 ⟨rfl, hx⟩
      rw [List.getElem?_map, hz] at hx
      obtain rfl : V.int m = x := Option.some.inj hx
      refine ⟨Same.refl _, _, fun Q q => q, rfl, fun Q q => ?_, fun _ H3 Q s3 _ q => ⟨_, rfl, q _ (Same.refl _)⟩⟩
      exact ⟨_, rfl, 10, 15, rfl, rfl, ⟨by decide, by decide, by decide⟩, m, _, rfl, rfl, _, rfl, q _ (Same.refl _)⟩
    intro H2 t2 e3
    refine ⟨_, rfl, ?_⟩
    refine ⟨t2 _ _ upd_same, boxKv g st 0, rfl, by show 3 ≤ 15; decide, ?_⟩
    have nbg : g ≠ b := (ne_of_none (upd_same (H := H') (a := b) (o := .dK [])) ng).symm
    have ng1 : H' g = none := by
      rw [upd_ne nbg] at ng
      exact ng
    refine q b g _ ⟨fun c o e => ?_, s3.free nb, s3.free ng1, ⟨ms.filter fun m => decide (10 ^ 15 < m), ?_, ?_⟩, ⟨st, 0, upd_same⟩⟩
    · have e5 := t2 _ _ (s4 _ _ (s3 _ _ e))
      rw [upd_ne (ne_of_none (s3 _ _ e) nb)]
      exact e5
    · rw [upd_ne nbg]
      exact e3
    · have := List.length_filter_le (fun m => decide ((10 : Int) ^ 15 < m)) ms
      omega
theorem ok__law_draw (T : Txt K mg a) : FnOk P w K mg base CX0 1 a.f__law_draw a.d__law_draw ["box", "many"] (sp__law_draw K) := by
  refine T._law_draw.F.ok sc__law_draw (fun vs H Q E h => ?_) (fun cdv A outer s H vs Q E hr h => ?_)
  · obtain ⟨_, _, _, _, rfl, _⟩ := h
    rfl
  · have hu := hu_of hr
    obtain ⟨H0, b, g, m, rfl, B, hm, q⟩ := h
    obtain ⟨ms, hl, hz⟩ := B.ls
    obtain ⟨st, ct, hd⟩ := B.dc
    have hm0 := hm.1
    refine ⟨_, (pss_cons (ps_set (i := 2) sc__law_draw.nd rfl (by first | exact Or.inl rfl | exact Or.inr rfl) (pe_dget hu (pv 0) pe_str (fun _ _ => rfl)))
      (pss_cons (ps_if (pt_cmpR (show OpR _ _ (rNeD K) from op_neD hr.units) (pv 2) (pe_lst pa_nil) (nomark _)) (pss_cons (ps_set (i := 5) sc__law_draw.nd rfl (by first | exact Or.inl rfl | exact Or.inr rfl) (pe_ix (show IxR _ (rIx K) from ix_seq) (pv 2) pe_int (fun _ _ => rfl)))
        (pss_cons (ps_asg (pe_op op_fdivW (pv 5) (pv 1)) (pg_sub (pv 2) pe_int set_list))
        (Evl.pss_cut (ps_if (pt_cmpR op_lt (pv 5) (pv 1) (nomark _)) (pss_one (ps_expr (show PE _ _ (tBM K "list" _ _ _) from pe_bm PySem.F.plainAttrs_list PySem.F.slot_list_pop PySem.F.type_list_pop mt_popAt (pv 2) (pa_cons pe_int pa_nil)))) pss_nil)
        (pss_one (ps_ret (pe_op op_modN (pe_callTy call_int1 (by rfl) T.b_int (by decide +kernel) (pa_cons (pv 5) pa_nil)) (pv 1))))))) pss_nil)
      (pss_cons (ps_set (i := 3) sc__law_draw.nd rfl (by first | exact Or.inl rfl | exact Or.inr rfl) (pe_op op_add (pe_dget hu (pv 0) pe_str (fun _ _ => rfl)) pe_int))
      (pss_cons (ps_dput hu (pv 0) pe_str (pv 3) rfl)
      (pss_cons (ps_set (i := 4) sc__law_draw.nd rfl (by first | exact Or.inl rfl | exact Or.inr rfl) (pe_op op_modN (pe_callTy call_int1 (by rfl) T.b_int (by decide +kernel) (pa_cons (pe_op op_add (pe_dget hu (pv 0) pe_str (fun _ _ => rfl)) (pe_op op_mul pe_int (pv 3))) pa_nil)) pe_int))
      (pss_cons (ps_set (i := 4) sc__law_draw.nd rfl (by first | exact Or.inl rfl | exact Or.inr rfl) (pe_op op_modN (pe_callTy call_int1 (by rfl) T.b_int (by decide +kernel) (pa_cons (pe_op op_add (pe_op op_add (pe_op op_mul (pv 4) (pv 4)) (pe_op op_mul pe_int (pv 3))) pe_int) pa_nil)) pe_int))
      (pss_cons (ps_set (i := 4) sc__law_draw.nd rfl (by first | exact Or.inl rfl | exact Or.inr rfl) (pe_op op_modN (pe_callTy call_int1 (by rfl) T.b_int (by decide +kernel) (pa_cons (pe_op op_add (pe_op op_mul (pv 4) (pv 4)) (pe_dget hu (pv 0) pe_str (fun _ _ => rfl))) pa_nil)) pe_int))
      (pss_one (ps_ret (pe_op op_modN (pe_callTy call_int1 (by rfl) T.b_int (by decide +kernel) (pa_cons (pe_op op_fdivW (pv 4) pe_int) pa_nil)) (pv 1))))))))))), ?_⟩
    -- great = box['great']; great != []
    refine ⟨_, rfl, b, .ref g, rfl, key_s hd rfl, ?_⟩
    refine ⟨_, rfl, Nat.zero_le _, fun p np => ?_⟩
    have B1 := B.more (same_new (o := .lst []) np)
    have hl1 : (upd H p (.lst [])) g = some (.lst (ms.map V.int)) := same_new np _ _ hl
    refine ⟨_, _, .lst (.of hl1) (dpa_ints ms), .lst (.of upd_same) .nil, shaped_ints ms, shaped_ints [], _, rfl, ?_⟩
    rw [eqv_nil_ints]
    cases ms with
    | cons k ms =>
      refine iteT ?_
      -- mark = great[0]; great[0] = mark // many
      refine ⟨_, rfl, .inl ⟨g, _, 0, .int k, rfl, rfl, .of hl1, atI_nat (j := 0) rfl, ?_⟩⟩
      refine ⟨_, rfl, _, rfl, k, m, rfl, rfl, hm, _, rfl, g, _, 0, 0, rfl, rfl, hl1, (by rw [List.map_cons, List.length_cons]; exact ixN_zero _), ?_⟩
      have B2 : Bs H0 (upd (upd H p (.lst [])) g (.lst (V.int (k / m) :: ms.map V.int))) b g := by
        refine ⟨fun c x e => ?_, B.nb, B.ng, ⟨(k / m) :: ms, upd_same, hz⟩, ⟨st, ct, ?_⟩⟩
        · rw [upd_ne (ne_of_none e B.ng)]
          exact B1.sub c x e
        · rw [upd_ne B.bg]
          exact same_new np _ _ hd
      have fin : ∀ H', Bs H0 H' b g → Q (.int (k.fmod m)) H' := fun H' B' => by
        rw [Int.fmod_eq_emod_of_nonneg k (by omega)]
        exact q _ H' (Int.emod_nonneg k (by omega)) (Int.emod_lt_of_pos k hm0) B'
      -- if mark < many: great.pop(0)
      refine ⟨fun σ H' => σ[1]? = some (some (.int m)) ∧ σ[5]? = some (some (.int k)) ∧ Bs H0 H' b g, ?_, ?_⟩
      · refine ⟨_, rfl, _, rfl, k, m, rfl, rfl, _, rfl, ?_⟩
        refine ite2 (fun _ => ?_) (fun _ => ?_)
        · refine ⟨_, rfl, .inl ⟨rfl, _, .of upd_same⟩, g, _, 0, 0, .int (k / m), rfl, rfl, upd_same, by decide, by decide, seqIx_zero _, rfl, rfl, rfl, ?_⟩
          refine ⟨fun c x e => ?_, B.nb, B.ng, ⟨ms, upd_same, ?_⟩, ⟨st, ct, ?_⟩⟩
          · rw [upd_ne (ne_of_none e B.ng)]
            exact B2.sub c x e
          · rw [List.length_cons] at hz
            omega
          · rw [upd_ne B.bg, upd_ne B.bg]
            exact same_new np _ _ hd
        · exact ⟨rfl, rfl, B2⟩
      · rintro σ H' ⟨e1, e5, B3⟩
        refine ⟨_, e5, .inl ⟨k, rfl, _, e1, k, m, rfl, rfl, by omega, ?_⟩⟩
        exact fin _ B3
    | nil =>
      refine iteF ?_
      have hd1 : (upd H p (.lst [])) b = some (.dK (boxKv g st ct)) := same_new np _ _ hd
      -- count = box['count'] + 1; box['count'] = count
      refine ⟨_, rfl, b, .int ct, rfl, key_s hd1 rfl, ct, 1, rfl, rfl, ?_⟩
      refine ⟨_, rfl, _, rfl, b, _, rfl, DPut.k (k := Sum.inr "count") hd1 (by show 3 < sizeLine; decide), ?_⟩
      have B2 : Bs H0 (upd (upd H p (.lst [])) b (.dK (boxKv g st (ct + 1)))) b g := by
        refine ⟨fun c x e => ?_, B.nb, B.ng, ⟨[], ?_, hz⟩, ⟨st, ct + 1, upd_same⟩⟩
        · rw [upd_ne (ne_of_none e B.nb)]
          exact B1.sub c x e
        · rw [upd_ne B.bg.symm]
          exact hl1
      have hd2 : (upd (upd H p (.lst [])) b (.dK (boxKv g st (ct + 1)))) b = some (.dK (boxKv g st (ct + 1))) := upd_same
      have md : ∀ x d : Int, 0 < d → x.fmod d = x % d := fun x d hx => Int.fmod_eq_emod_of_nonneg x (by omega)
      have lo : ∀ x d : Int, 0 < d → 0 ≤ x % d ∧ x % d < d := fun x d hx => ⟨Int.emod_nonneg x (by omega), Int.emod_lt_of_pos x hx⟩
      -- found, three times
      refine ⟨_, rfl, b, .int st, rfl, key_s hd2 rfl, _, rfl, 2654435761, _, rfl, rfl, .inl ⟨by decide, by decide⟩, st, _, rfl, rfl, .inl ⟨_, rfl, _, 4294967291, rfl, rfl, (show (4294967291 : Int) ≠ 0 by decide), ?_⟩⟩
      rw [show ∀ x : Int, (fun i j : Int => V.int (i.fmod j)) x 4294967291 = V.int (x % 4294967291) from fun x => congrArg V.int (md x _ (by decide))]
      obtain ⟨l1, u1⟩ := lo (st + 2654435761 * (ct + 1)) 4294967291 (by decide)
      generalize (st + 2654435761 * (ct + 1)) % 4294967291 = f1 at l1 u1 ⊢
      refine ⟨_, rfl, _, rfl, f1, f1, rfl, rfl, .inl ⟨by omega, by omega⟩, _, rfl, 40503, _, rfl, rfl, .inl ⟨by decide, by decide⟩, _, _, rfl, rfl, _, 7, rfl, rfl, .inl ⟨_, rfl, _, 4294967279, rfl, rfl, (show (4294967279 : Int) ≠ 0 by decide), ?_⟩⟩
      rw [show ∀ x : Int, (fun i j : Int => V.int (i.fmod j)) x 4294967279 = V.int (x % 4294967279) from fun x => congrArg V.int (md x _ (by decide))]
      obtain ⟨l2, u2⟩ := lo (f1 * f1 + 40503 * (ct + 1) + 7) 4294967279 (by decide)
      generalize (f1 * f1 + 40503 * (ct + 1) + 7) % 4294967279 = f2 at l2 u2 ⊢
      refine ⟨_, rfl, _, rfl, f2, f2, rfl, rfl, .inl ⟨by omega, by omega⟩, _, rfl, b, .int st, rfl, key_s hd2 rfl, _, _, rfl, rfl, .inl ⟨_, rfl, _, 4294967231, rfl, rfl, (show (4294967231 : Int) ≠ 0 by decide), ?_⟩⟩
      rw [show ∀ x : Int, (fun i j : Int => V.int (i.fmod j)) x 4294967231 = V.int (x % 4294967231) from fun x => congrArg V.int (md x _ (by decide))]
      obtain ⟨l3, u3⟩ := lo (f2 * f2 + st) 4294967231 (by decide)
      generalize (f2 * f2 + st) % 4294967231 = f3 at l3 u3 ⊢
      refine ⟨_, rfl, f3, 128, rfl, rfl, ⟨by decide, by decide⟩, .inl ⟨_, rfl, _, rfl, _, m, rfl, rfl, by omega, ?_⟩⟩
      show Q (V.int ((f3 / 128).fmod m)) _
      rw [md _ m hm0]
      exact q _ _ (lo _ m hm0).1 (lo _ m hm0).2 B2
theorem ok__law_rest (T : Txt K mg a) : FnOk P w K mg base CX0 1 a.f__law_rest a.d__law_rest ["number", "modulus"] (sp__law_rest K) := by
  refine T._law_rest.F.ok sc__law_rest (fun vs H Q E h => ?_) (fun cdv A outer s H vs Q E hr h => ?_)
  · obtain ⟨_, _, rfl, _⟩ := h
    rfl
  · have hu := hu_of hr
    obtain ⟨n, m, rfl, m0, m1, q⟩ := h
    have hc : CDivW n m := wide_div (b := 60) m0 (by omega) (by decide) (by decide)
    refine ⟨_, (pss_one (ps_ret (pe_op op_sub (pv 0) (pe_op op_mul (pv 1) (pe_op op_fdivW (pv 0) (pv 1)))))), ?_⟩
    refine ⟨_, rfl, _, rfl, _, rfl, _, rfl, n, m, rfl, rfl, hc, m, n / m, rfl, rfl, .inl ⟨by omega, by omega⟩, n, m * (n / m), rfl, rfl, ?_⟩
    rw [show (fun i j : Int => V.int (i - j)) n (m * (n / m)) = V.int (n % m) from congrArg V.int (by rw [Int.emod_def])]
    exact q
theorem ok_agreeing (T : Txt K mg a) : FnOk P w K mg base CX0 2 a.f_agreeing a.d_agreeing ["machine", "word", "number"] (sp_agreeing K) := by
  have G_rests_of : FnOk P w K mg base CX0 1 a.f_rests_of a.d_rests_of ["machine", "number"] (sp_rests_of K) := ok_rests_of T
  refine T.agreeing.F.ok sc_agreeing (fun vs H Q E h => ?_) (fun cdv A outer s H vs Q E hr h => ?_)
  · obtain ⟨_, _, _, _, _, rfl, _⟩ := h
    rfl
  · have hu := hu_of hr
    obtain ⟨t, p, ns, ws, n, rfl, hT, hP, hm, hl, q⟩ := h
    refine ⟨_, (pss_cons (ps_set (i := 3) sc_agreeing.nd rfl (by first | exact Or.inl rfl | exact Or.inr rfl) (pe_call G_rests_of hr (by rfl) T.rests_of.m T.rests_of.F.kp T.rests_of.b .nil pass0 (pa_cons (pv 0) (pa_cons (pv 2) pa_nil))))
      (pss_one (ps_ret (pe_callTy (show CallR _ _ (rTupS K) from call_tuple_of) (by rfl) T.b_tuple (by decide +kernel) (pa_cons (pe_lc (own := [("lane", 4), ("item", 5)]) rfl sc_agreeing.nd (show PI _ _ _ (iEnumT K _) from pi_enumT (by rfl) T.b_enumerate (pa_cons (pv 1) pa_nil)) (blkOk_by (N := ["machine", "word", "number", "rests", "lane", "item"]) (sc := defScope s_agreeing) (by decide +kernel)) (fun _ _ _ _ _ => (show PG _ _ (gTup K 2 _) from pg_tup rfl (pgs_cons (pg_name (i := 4) sc_agreeing.nd rfl (by first | exact Or.inl rfl | exact Or.inr rfl)) (pgs_cons (pg_name (i := 5) sc_agreeing.nd rfl (by first | exact Or.inl rfl | exact Or.inr rfl)) pgs_nil)))) (fun _ _ _ _ _ => (pts_one (pt_cmpR op_eq (pv 5) (pe_ix (show IxR _ (rIx K) from ix_seq) (pv 3) (pv 4) (fun _ _ => rfl)) (nomark _)))) (fun _ _ _ _ _ => (pv 4))) pa_nil))))), ?_⟩
    refine ⟨_, rfl, _, rfl, t, ns, n, rfl, hT, hm, fun r H1 s1 nr er => ?_⟩
    refine ⟨_, rfl, p, ws.map vO, rfl, Sx.Same.tup s1 hP, fun D hD => ?_⟩
    refine lc_reckon (walk_enumT (xs := ws.map vO)) (zs := List.range ws.length) (by rw [List.length_range, List.length_map]) (fun i => decide (vO (ws.getD i none) = .int ((rests ns n).getD i 0))) (fun i => .int (i : Nat)) (by rw [List.length_range]; have := hm.ten; omega) hD (fun H2 s => Sx.Same.tup s (Sx.Same.tup s1 hP)) ?_ ?_
    · rintro i z x H2 H3 hz s2 ⟨T, y1, y2, rfl, nT, rfl, e1, e2⟩
      have hi := (List.getElem?_eq_some_iff.mp hz).1
      rw [List.length_range] at hi
      obtain rfl : i = z := by
        rw [List.getElem?_range hi] at hz
        exact Option.some.inj hz
      obtain rfl : V.int (i : Nat) = y1 := Option.some.inj e1
      have ew : ws[i]? = some (ws.getD i none) := by
        rw [List.getD_eq_getElem?_getD, List.getElem?_eq_getElem hi] <;> rfl
      obtain rfl : vO (ws.getD i none) = y2 := by
        have e3 : (ws.map vO)[i]? = some y2 := e2
        rw [List.getElem?_map, ew] at e3
        exact Option.some.inj e3
      generalize ho : ws.getD i none = o
      have sT : Same H2 (upd H2 T (.tup [.int (i : Nat), vO o])) := same_new nT
      have eR : (rests ns n)[i]? = some ((rests ns n).getD i 0) := by
        have hr : i < (rests ns n).length := by
          unfold rests
          rw [List.length_map]
          omega
        rw [List.getD_eq_getElem?_getD, List.getElem?_eq_getElem hr] <;> rfl
      refine ⟨sT, _, fun Q q => ⟨T, _, rfl, .of upd_same, rfl, _, _, rfl, _, _, rfl, rfl, q⟩, rfl, fun Q q => ?_, fun _ H4 Q _ s4 q => ⟨_, rfl, q _ (Same.refl _)⟩⟩
      refine ⟨_, rfl, _, rfl, _, rfl, .inr (.inl ⟨r, _, _, _, rfl, rfl, .of (sT _ _ (s2 _ _ er)), atI_nat (j := i) (by rw [List.getElem?_map, eR]; rfl), ?_⟩)⟩
      refine ⟨by cases o <;> rfl, _, rfl, ?_⟩
      exact q _ (Same.refl _)
    · intro H2 s2 e2
      refine ⟨D, _, rfl, .inl ⟨.of e2, fun l nl => ?_⟩⟩
      exact q l _ ((s1.trans s2).trans (same_new nl)) ((s1.trans s2).free nl) upd_same
theorem ok_straying (T : Txt K mg a) : FnOk P w K mg base CX0 2 a.f_straying a.d_straying ["machine", "word", "number"] (sp_straying K) := by
  have G_rests_of : FnOk P w K mg base CX0 1 a.f_rests_of a.d_rests_of ["machine", "number"] (sp_rests_of K) := ok_rests_of T
  refine T.straying.F.ok sc_straying (fun vs H Q E h => ?_) (fun cdv A outer s H vs Q E hr h => ?_)
  · obtain ⟨_, _, _, _, _, rfl, _⟩ := h
    rfl
  · have hu := hu_of hr
    obtain ⟨t, p, ns, ws, n, rfl, hT, hP, hm, hl, q⟩ := h
    refine ⟨_, (pss_cons (ps_set (i := 3) sc_straying.nd rfl (by first | exact Or.inl rfl | exact Or.inr rfl) (pe_call G_rests_of hr (by rfl) T.rests_of.m T.rests_of.F.kp T.rests_of.b .nil pass0 (pa_cons (pv 0) (pa_cons (pv 2) pa_nil))))
      (pss_one (ps_ret (pe_callTy (show CallR _ _ (rTupS K) from call_tuple_of) (by rfl) T.b_tuple (by decide +kernel) (pa_cons (pe_lc (own := [("lane", 4), ("item", 5)]) rfl sc_straying.nd (show PI _ _ _ (iEnumT K _) from pi_enumT (by rfl) T.b_enumerate (pa_cons (pv 1) pa_nil)) (blkOk_by (N := ["machine", "word", "number", "rests", "lane", "item"]) (sc := defScope s_straying) (by decide +kernel)) (fun _ _ _ _ _ => (show PG _ _ (gTup K 2 _) from pg_tup rfl (pgs_cons (pg_name (i := 4) sc_straying.nd rfl (by first | exact Or.inl rfl | exact Or.inr rfl)) (pgs_cons (pg_name (i := 5) sc_straying.nd rfl (by first | exact Or.inl rfl | exact Or.inr rfl)) pgs_nil)))) (fun _ _ _ _ _ => (pts_one (PW.pt (pw_and (pt_cmpR op_notN (pv 5) pe_non (nomark _)) (pw_and1 (pt_cmpR op_ne (pv 5) (pe_ix (show IxR _ (rIx K) from ix_seq) (pv 3) (pv 4) (fun _ _ => rfl)) (nomark _))))))) (fun _ _ _ _ _ => (pv 4))) pa_nil))))), ?_⟩
    refine ⟨_, rfl, _, rfl, t, ns, n, rfl, hT, hm, fun r H1 s1 nr er => ?_⟩
    refine ⟨_, rfl, p, ws.map vO, rfl, Sx.Same.tup s1 hP, fun D hD => ?_⟩
    refine lc_reckon (walk_enumT (xs := ws.map vO)) (zs := List.range ws.length) (by rw [List.length_range, List.length_map]) (fun i => (!decide (vO (ws.getD i none) = .non)) && !decide (vO (ws.getD i none) = .int ((rests ns n).getD i 0))) (fun i => .int (i : Nat)) (by rw [List.length_range]; have := hm.ten; omega) hD (fun H2 s => Sx.Same.tup s (Sx.Same.tup s1 hP)) ?_ ?_
    · rintro i z x H2 H3 hz s2 ⟨T, y1, y2, rfl, nT, rfl, e1, e2⟩
      have hi := (List.getElem?_eq_some_iff.mp hz).1
      rw [List.length_range] at hi
      obtain rfl : i = z := by
        rw [List.getElem?_range hi] at hz
        exact Option.some.inj hz
      obtain rfl : V.int (i : Nat) = y1 := Option.some.inj e1
      have ew : ws[i]? = some (ws.getD i none) := by
        rw [List.getD_eq_getElem?_getD, List.getElem?_eq_getElem hi] <;> rfl
      obtain rfl : vO (ws.getD i none) = y2 := by
        have e3 : (ws.map vO)[i]? = some y2 := e2
        rw [List.getElem?_map, ew] at e3
        exact Option.some.inj e3
      generalize ho : ws.getD i none = o
      have sT : Same H2 (upd H2 T (.tup [.int (i : Nat), vO o])) := same_new nT
      have eR : (rests ns n)[i]? = some ((rests ns n).getD i 0) := by
        have hr : i < (rests ns n).length := by
          unfold rests
          rw [List.length_map]
          omega
        rw [List.getD_eq_getElem?_getD, List.getElem?_eq_getElem hr] <;> rfl
      refine ⟨sT, _, fun Q q => ⟨T, _, rfl, .of upd_same, rfl, _, _, rfl, _, _, rfl, rfl, q⟩, rfl, fun Q q => ?_, fun _ H4 Q _ s4 q => ⟨_, rfl, q _ (Same.refl _)⟩⟩
      have q' : ∀ H3, Same (upd H2 T (.tup [.int (i : Nat), vO o])) H3 → Q ((!decide (vO o = .non)) && !decide (vO o = .int ((rests ns n).getD i 0))) H3 := by
        rw [← ho] at q ⊢
        exact q
      refine ⟨_, rfl, rfl, _, rfl, ?_⟩
      cases o with
      | none => exact iteF (q' _ (Same.refl _))
      | some k =>
        refine iteT ⟨_, rfl, _, rfl, _, rfl, .inr (.inl ⟨r, _, _, _, rfl, rfl, .of (sT _ _ (s2 _ _ er)), atI_nat (j := i) (by rw [List.getElem?_map, eR]; rfl), ?_⟩)⟩
        exact ⟨rfl, _, rfl, q' _ (Same.refl _)⟩
    · intro H2 s2 e2
      refine ⟨D, _, rfl, .inl ⟨.of e2, fun l nl => ?_⟩⟩
      exact q l _ ((s1.trans s2).trans (same_new nl)) ((s1.trans s2).free nl) upd_same
theorem ok__law_pick (T : Txt K mg a) : FnOk P w K mg base CX0 2 a.f__law_pick a.d__law_pick ["box", "items"] (sp__law_pick K) := by
  have G__law_draw : FnOk P w K mg base CX0 1 a.f__law_draw a.d__law_draw ["box", "many"] (sp__law_draw K) := ok__law_draw T
  refine T._law_pick.F.ok sc__law_pick (fun vs H Q E h => ?_) (fun cdv A outer s H vs Q E hr h => ?_)
  · obtain ⟨_, _, _, _, _, rfl, _⟩ := h
    rfl
  · have hu := hu_of hr
    obtain ⟨H0, b, g, p, xs, rfl, B, hs, hne, hlen, q⟩ := h
    have hs' : SqL K H p xs ∨ SqT K H p xs := hs.imp (fun z => L2.Same.seq B.sub z) (fun z => Sx.Same.tup B.sub z)
    have hpos : 0 < xs.length := List.length_pos_iff.mpr hne
    refine ⟨_, (pss_one (ps_ret (pe_ix (show IxR _ (rIx K) from ix_seq) (pv 1) (pe_call G__law_draw hr (by rfl) T._law_draw.m T._law_draw.F.kp T._law_draw.b .nil pass0 (pa_cons (pv 0) (pa_cons (pe_callB (show CallR _ _ (rLenS K) from call_len_seq) (by rfl) T.b_len (by decide +kernel) (pa_cons (pv 1) pa_nil)) pa_nil))) (fun _ _ => rfl)))), ?_⟩
    refine ⟨_, rfl, _, rfl, _, rfl, p, xs, rfl, hs', H0, b, g, _, rfl, B, small_of (by omega) (by omega), fun r H' lo hi B' => ?_⟩
    obtain ⟨i, rfl⟩ : ∃ i : Nat, r = (i : Int) := ⟨r.toNat, by omega⟩
    have hi' : i < xs.length := by omega
    have hx : xs[i]? = some xs[i] := List.getElem?_eq_getElem hi'
    rcases hs with hs | hs
    · exact .inl ⟨p, xs, _, _, rfl, rfl, L2.Same.seq B'.sub hs, atI_nat hx, q i _ H' hx B'⟩
    · exact .inr (.inl ⟨p, xs, _, _, rfl, rfl, Sx.Same.tup B'.sub hs, atI_nat hx, q i _ H' hx B'⟩)
theorem ok__law_great (T : Txt K mg a) : FnOk P w K mg base CX0 2 a.f__law_great a.d__law_great ["box", "many"] (sp__law_great K) := by
  have G__law_draw : FnOk P w K mg base CX0 1 a.f__law_draw a.d__law_draw ["box", "many"] (sp__law_draw K) := ok__law_draw T
  refine T._law_great.F.ok sc__law_great (fun vs H Q E h => ?_) (fun cdv A outer s H vs Q E hr h => ?_)
  · obtain ⟨_, _, _, _, rfl, _⟩ := h
    rfl
  · have hu := hu_of hr
    obtain ⟨H0, b, g, m, rfl, B, m0, m1, q⟩ := h
    refine ⟨_, (pss_cons (ps_set (i := 2) sc__law_great.nd rfl (by first | exact Or.inl rfl | exact Or.inr rfl) pe_int)
      (pss_cons (ps_for PassesOwn.never rfl (pi_range1 rfl T.b_range (pa_cons (pv 1) pa_nil)) (pg_name (i := 3) sc__law_great.nd rfl (by first | exact Or.inl rfl | exact Or.inr rfl)) (pss_one (ps_set (i := 2) sc__law_great.nd rfl (by first | exact Or.inl rfl | exact Or.inr rfl) (pe_op op_add (pe_op op_mul pe_int (pv 2)) (pe_call G__law_draw hr (by rfl) T._law_draw.m T._law_draw.F.kp T._law_draw.b .nil pass0 (pa_cons (pv 0) (pa_cons pe_int pa_nil)))))))
      (pss_one (ps_ret (pv 2))))), ?_⟩
    refine ⟨_, rfl, m, rfl, by omega, by omega, for_range (lo := 0) (n := m.toNat) (fun i σ H => ∃ (f : Int) (v : Option V), σ = [some (.ref b), some (.int m), some (.int f), v] ∧ 0 ≤ f ∧ f < 1000000 ^ i ∧ Bs H0 H b g) ⟨0, none, rfl, by decide, by decide, B⟩ ?_ ?_⟩
    · rintro i σ H hi ⟨f, v, rfl, f0, f1, B1⟩
      refine ⟨_, rfl, _, _, rfl, rfl, .inl ⟨by decide, by decide⟩, _, rfl, H0, b, g, 1000000, rfl, B1, small_of (by decide) (by decide), fun r H' lo hi' B' => ?_⟩
      refine ⟨_, _, rfl, rfl, 1000000 * f + r, _, rfl, by omega, ?_, B'⟩
      rw [Int.pow_succ]
      omega
    · rintro σ H ⟨f, v, rfl, f0, f1, B1⟩
      exact ⟨_, rfl, q f H f0 f1 B1⟩
theorem ok__law_number (T : Txt K mg a) : FnOk P w K mg base CX0 3 a.f__law_number a.d__law_number ["box"] (sp__law_number K) := by
  have G__law_draw : FnOk P w K mg base CX0 1 a.f__law_draw a.d__law_draw ["box", "many"] (sp__law_draw K) := ok__law_draw T
  have G__law_great : FnOk P w K mg base CX0 2 a.f__law_great a.d__law_great ["box", "many"] (sp__law_great K) := ok__law_great T
  refine T._law_number.F.ok sc__law_number (fun vs H Q E h => ?_) (fun cdv A outer s H vs Q E hr h => ?_)
  · obtain ⟨_, _, _, rfl, _⟩ := h
    rfl
  · have hu := hu_of hr
    obtain ⟨H0, b, g, rfl, B, q⟩ := h
    have dr : ∀ m : Int, 0 < m → m < 2 ^ 60 → Small m := fun m h0 h1 => small_of h0 h1
    refine ⟨_, (pss_cons (ps_set (i := 1) sc__law_number.nd rfl (by first | exact Or.inl rfl | exact Or.inr rfl) (pe_call G__law_draw (hr.mono (by decide)) (by rfl) T._law_draw.m T._law_draw.F.kp T._law_draw.b .nil pass0 (pa_cons (pv 0) (pa_cons pe_int pa_nil))))
      (pss_cons (ps_set (i := 2) sc__law_number.nd rfl (by first | exact Or.inl rfl | exact Or.inr rfl) (pe_cut (pe_ifExp (pt_cmpR op_lt (pv 1) pe_int (nomark _)) (pe_call G__law_draw (hr.mono (by decide)) (by rfl) T._law_draw.m T._law_draw.F.kp T._law_draw.b .nil pass0 (pa_cons (pv 0) (pa_cons pe_int pa_nil))) (pe_call G__law_great hr (by rfl) T._law_great.m T._law_great.F.kp T._law_great.b .nil pass0 (pa_cons (pv 0) (pa_cons (pe_op op_add pe_int (pe_call G__law_draw (hr.mono (by decide)) (by rfl) T._law_draw.m T._law_draw.F.kp T._law_draw.b .nil pass0 (pa_cons (pv 0) (pa_cons pe_int pa_nil)))) pa_nil))))))
      (Evl.pss_cut (ps_if (pt_cmpR op_eq (pv 1) pe_int (nomark _)) (pss_one (ps_set (i := 2) sc__law_number.nd rfl (by first | exact Or.inl rfl | exact Or.inr rfl) (pe_op op_sub (pe_op op_pow pe_int pe_int) (pe_call G__law_draw (hr.mono (by decide)) (by rfl) T._law_draw.m T._law_draw.F.kp T._law_draw.b .nil pass0 (pa_cons (pv 0) (pa_cons pe_int pa_nil)))))) pss_nil)
      (pss_one (ps_ret (pe_cut (pe_ifExp (pt_cmpR op_gt (pe_call G__law_draw (hr.mono (by decide)) (by rfl) T._law_draw.m T._law_draw.F.kp T._law_draw.b .nil pass0 (pa_cons (pv 0) (pa_cons pe_int pa_nil))) pe_int (nomark _)) (pv 2) (pe_un un_neg (pv 2))))))))), ?_⟩
    refine ⟨_, rfl, H0, b, g, 8, rfl, B, dr _ (by decide) (by decide), fun way H1 w0 w1 B1 => ?_⟩
    -- found
    refine ⟨fun v H' => ∃ f : Int, v = .int f ∧ IsNum f ∧ Bs H0 H' b g, ?_, ?_⟩
    · refine ⟨_, rfl, _, _, rfl, rfl, _, rfl, ite2 (fun _ => ?_) (fun _ => ?_)⟩
      · refine ⟨_, rfl, H0, b, g, 300, rfl, B1, dr _ (by decide) (by decide), fun r H2 r0 r1 B2 => ?_⟩
        exact ⟨r, rfl, ⟨by omega, by omega⟩, B2⟩
      · refine ⟨_, rfl, _, rfl, H0, b, g, 10, rfl, B1, dr _ (by decide) (by decide), fun r H2 r0 r1 B2 => ?_⟩
        refine ⟨_, _, rfl, rfl, H0, b, g, _, rfl, B2, by omega, by omega, fun f H3 f0 f1 B3 => ?_⟩
        refine ⟨f, rfl, ⟨by omega, ?_⟩, B3⟩
        have h1 := pow_mono (show (1 + r).toNat ≤ 10 by omega)
        have h2 : (1000000 : Int) ^ 10 = 10 ^ 60 := by decide
        omega
    · rintro v H2 ⟨f, rfl, hf, B2⟩
      -- if way == 7: found = 10 ** 60 - draw
      refine ⟨fun σ H' => ∃ f : Int, σ = [some (.ref b), some (.int way), some (.int f)] ∧ IsNum f ∧ Bs H0 H' b g, ?_, ?_⟩
      · refine ⟨_, rfl, rfl, _, rfl, ite2 (fun _ => ?_) (fun _ => ?_)⟩
        · refine ⟨10, 60, rfl, rfl, ⟨by decide, by decide, by decide⟩, _, rfl, H0, b, g, 3, rfl, B2, dr _ (by decide) (by decide), fun r H3 r0 r1 B3 => ?_⟩
          refine ⟨_, _, rfl, rfl, _, rfl, ⟨?_, ?_⟩, B3⟩
          · show -(10 ^ 60) ≤ (10 : Int) ^ 60 - r
            omega
          · show (10 : Int) ^ 60 - r ≤ 10 ^ 60
            omega
        · exact ⟨f, rfl, hf, B2⟩
      · rintro σ H3 ⟨f, rfl, hf, B3⟩
        refine ⟨fun v H' => ∃ f : Int, v = .int f ∧ IsNum f ∧ Bs H0 H' b g, ?_, ?_⟩
        · refine ⟨_, rfl, H0, b, g, 3, rfl, B3, dr _ (by decide) (by decide), fun r H4 r0 r1 B4 => ?_⟩
          refine ⟨_, _, rfl, rfl, _, rfl, ite2 (fun _ => ?_) (fun _ => ?_)⟩
          · exact ⟨_, rfl, f, rfl, hf, B4⟩
          · exact ⟨_, rfl, f, rfl, -f, rfl, ⟨by have := hf.1; have := hf.2; omega, by have := hf.1; have := hf.2; omega⟩, B4⟩
        · rintro v H4 ⟨f, rfl, hf, B4⟩
          exact q f H4 hf B4
theorem ok__law_machine (T : Txt K mg a) : FnOk P w K mg base CX0 3 a.f__law_machine a.d__law_machine ["box"] (sp__law_machine K) := by
  have G__law_draw : FnOk P w K mg base CX0 1 a.f__law_draw a.d__law_draw ["box", "many"] (sp__law_draw K) := ok__law_draw T
  have G__law_pick : FnOk P w K mg base CX0 2 a.f__law_pick a.d__law_pick ["box", "items"] (sp__law_pick K) := ok__law_pick T
  refine T._law_machine.F.ok sc__law_machine (fun vs H Q E h => ?_) (fun cdv A outer s H vs Q E hr h => ?_)
  · obtain ⟨_, _, _, rfl, _⟩ := h
    rfl
  · have hu := hu_of hr
    obtain ⟨H0, b, g, rfl, B, q⟩ := h
    have dr : ∀ m : Int, 0 < m → m < 2 ^ 60 → Small m := fun m h0 h1 => small_of h0 h1
    -- a list of ints becomes the tuple
    have fin : ∀ (ms : List Int) (D : Addr) (H3 : Hp), IsMach ms → Bs (upd H0 D (.lst (ms.map V.int))) H3 b g → H0 D = none → ∀ l, H3 l = none → Q (.ref l) (upd H3 l (.tup (ms.map V.int))) := fun ms D H3 hm B3 n0 l nl =>
      q ms l _ hm ((B3.less (same_new n0)).sub.free nl) upd_same (B3.pb nl) (B3.pg nl) ((B3.less (same_new n0)).more (same_new nl))
    refine ⟨_, (pss_cons (ps_par (i := 1) (j := 2) (by rfl) sc__law_machine.nd rfl rfl (by decide) rfl rfl (pa_cons (pe_call G__law_draw (hr.mono (by decide)) (by rfl) T._law_draw.m T._law_draw.F.kp T._law_draw.b .nil pass0 (pa_cons (pv 0) (pa_cons pe_int pa_nil))) (pa_cons (pe_op op_add pe_int (pe_call G__law_draw (hr.mono (by decide)) (by rfl) T._law_draw.m T._law_draw.F.kp T._law_draw.b .nil pass0 (pa_cons (pv 0) (pa_cons pe_int pa_nil)))) pa_nil)) (by rfl))
      (pss_cons (ps_if (pt_cmpR op_eq (pv 1) pe_int (nomark _)) (pss_one (ps_ret (pe_op (show OpR _ _ (rRepAny K) from op_repAny) (pe_tup (pa_cons (pe_op op_add pe_int (pe_call G__law_draw (hr.mono (by decide)) (by rfl) T._law_draw.m T._law_draw.F.kp T._law_draw.b .nil pass0 (pa_cons (pv 0) (pa_cons pe_int pa_nil)))) pa_nil)) (pv 2)))) pss_nil)
      (pss_cons (ps_if (pt_cmpR op_eq (pv 1) pe_int (nomark _)) (pss_cons (ps_set (i := 3) sc__law_machine.nd rfl (by first | exact Or.inl rfl | exact Or.inr rfl) (pe_op op_add pe_int (pe_call G__law_draw (hr.mono (by decide)) (by rfl) T._law_draw.m T._law_draw.F.kp T._law_draw.b .nil pass0 (pa_cons (pv 0) (pa_cons pe_int pa_nil)))))
        (pss_one (ps_ret (pe_callTy (show CallR _ _ (rTupS K) from call_tuple_of) (by rfl) T.b_tuple (by decide +kernel) (pa_cons (pe_lc (own := [("lane", 4)]) rfl sc__law_machine.nd (pi_range1 rfl T.b_range (pa_cons (pv 2) pa_nil)) (blkOk_by (N := ["box", "way", "many", "own", "lane"]) (sc := defScope s__law_machine) (by decide +kernel)) (fun _ _ _ _ _ => (pg_name (i := 4) sc__law_machine.nd rfl (by first | exact Or.inl rfl | exact Or.inr rfl))) (fun _ _ _ _ _ => pts_nil) (fun _ _ _ _ _ => (pe_op op_mul (pv 3) (pe_op op_add pe_int (pe_call G__law_draw (hr.mono (by decide)) (by rfl) T._law_draw.m T._law_draw.F.kp T._law_draw.b .nil pass0 (pa_cons (pv 0) (pa_cons pe_int pa_nil))))))) pa_nil))))) pss_nil)
      (pss_cons (ps_if (pt_cmpR op_eq (pv 1) pe_int (nomark _)) (pss_one (ps_ret (pe_callTy (show CallR _ _ (rTupS K) from call_tuple_of) (by rfl) T.b_tuple (by decide +kernel) (pa_cons (pe_lc (own := [("lane", 4)]) rfl sc__law_machine.nd (pi_range1 rfl T.b_range (pa_cons (pv 2) pa_nil)) (blkOk_by (N := ["box", "way", "many", "own", "lane"]) (sc := defScope s__law_machine) (by decide +kernel)) (fun _ _ _ _ _ => (pg_name (i := 4) sc__law_machine.nd rfl (by first | exact Or.inl rfl | exact Or.inr rfl))) (fun _ _ _ _ _ => pts_nil) (fun _ _ _ _ _ => (pe_call G__law_pick hr (by rfl) T._law_pick.m T._law_pick.F.kp T._law_pick.b .nil pass0 (pa_cons (pv 0) (pa_cons (pe_lst (pa_cons (pe_op op_pow pe_int pe_int) (pa_cons (pe_op op_sub (pe_op op_pow pe_int pe_int) pe_int) (pa_cons (pe_op op_add pe_int (pe_call G__law_draw (hr.mono (by decide)) (by rfl) T._law_draw.m T._law_draw.F.kp T._law_draw.b .nil pass0 (pa_cons (pv 0) (pa_cons pe_int pa_nil)))) pa_nil)))) pa_nil))))) pa_nil)))) pss_nil)
      (pss_cons (ps_if (pt_cmpR op_eq (pv 1) pe_int (nomark _)) (pss_one (ps_ret (pe_callTy (show CallR _ _ (rTupS K) from call_tuple_of) (by rfl) T.b_tuple (by decide +kernel) (pa_cons (pe_lc (own := [("lane", 4)]) rfl sc__law_machine.nd (pi_range1 rfl T.b_range (pa_cons pe_int pa_nil)) (blkOk_by (N := ["box", "way", "many", "own", "lane"]) (sc := defScope s__law_machine) (by decide +kernel)) (fun _ _ _ _ _ => (pg_name (i := 4) sc__law_machine.nd rfl (by first | exact Or.inl rfl | exact Or.inr rfl))) (fun _ _ _ _ _ => pts_nil) (fun _ _ _ _ _ => (pe_op op_add pe_int (pe_call G__law_draw (hr.mono (by decide)) (by rfl) T._law_draw.m T._law_draw.F.kp T._law_draw.b .nil pass0 (pa_cons (pv 0) (pa_cons pe_int pa_nil)))))) pa_nil)))) pss_nil)
      (pss_one (ps_ret (pe_callTy (show CallR _ _ (rTupS K) from call_tuple_of) (by rfl) T.b_tuple (by decide +kernel) (pa_cons (pe_lc (own := [("lane", 4)]) rfl sc__law_machine.nd (pi_range1 rfl T.b_range (pa_cons (pv 2) pa_nil)) (blkOk_by (N := ["box", "way", "many", "own", "lane"]) (sc := defScope s__law_machine) (by decide +kernel)) (fun _ _ _ _ _ => (pg_name (i := 4) sc__law_machine.nd rfl (by first | exact Or.inl rfl | exact Or.inr rfl))) (fun _ _ _ _ _ => pts_nil) (fun _ _ _ _ _ => (pe_op op_add pe_int (pe_call G__law_draw (hr.mono (by decide)) (by rfl) T._law_draw.m T._law_draw.F.kp T._law_draw.b .nil pass0 (pa_cons (pv 0) (pa_cons pe_int pa_nil)))))) pa_nil))))))))), ?_⟩
    refine ⟨_, rfl, H0, b, g, 7, rfl, B, dr _ (by decide) (by decide), fun way H1 w0 w1 B1 => ?_⟩
    refine ⟨_, rfl, H0, b, g, 5, rfl, B1, dr _ (by decide) (by decide), fun k H2 k0 k1 B2 => ?_⟩
    refine ⟨_, _, rfl, rfl, _, _, rfl, ?_⟩
    -- way == 0
    refine ⟨_, rfl, rfl, _, rfl, ite2 (fun _ => ?_) (fun _ => ?_)⟩
    · refine ⟨_, rfl, H0, b, g, 11, rfl, B2, dr _ (by decide) (by decide), fun r H3 r0 r1 B3 => ?_⟩
      refine ⟨_, _, rfl, rfl, by show 1 ≤ sizeLine; decide, fun p np => ⟨_, rfl, ?_⟩⟩
      have B4 := B3.more (same_new (o := .tup [.int (2 + r)]) np)
      by_cases h1 : k = 0
      · subst h1
        refine .inr ⟨p, _, rfl, rfl, .of upd_same, ?_⟩
        exact q [2 + r] p _ ⟨Nat.le_refl 1, (show 1 ≤ 10 by decide), fun n hn => by rw [List.mem_singleton.mp hn]; omega⟩ (B3.sub.free np) upd_same (B3.pb np) (B3.pg np) B4
      · refine .inl ⟨p, 1 + k, _, rfl, rfl, .of upd_same, (fun z => nomatch z), by omega, by omega, (show 1 ≤ 1000 by decide), fun l nl => ?_⟩
        have e : (List.replicate (1 + k).toNat [V.int (2 + r)]).flatten = (List.replicate (1 + k).toNat (2 + r)).map V.int := by
          rw [List.map_replicate]
          generalize (1 + k).toNat = c
          induction c with
          | zero => rfl
          | succ c ih => rw [List.replicate_succ, List.replicate_succ, List.flatten_cons, ih] <;> rfl
        rw [e]
        refine q (List.replicate (1 + k).toNat (2 + r)) l _ ⟨?_, ?_, ?_⟩ (B4.sub.free nl) upd_same (B4.pb nl) (B4.pg nl) (B4.more (same_new nl))
        · rw [List.length_replicate]
          omega
        · rw [List.length_replicate]
          omega
        · intro n hn
          rw [(List.mem_replicate.mp hn).2]
          omega
    -- way == 1
    refine ⟨_, rfl, rfl, _, rfl, ite2 (fun _ => ?_) (fun _ => ?_)⟩
    · refine ⟨_, rfl, H0, b, g, 5, rfl, B2, dr _ (by decide) (by decide), fun r H3 r0 r1 B3 => ?_⟩
      refine ⟨_, _, rfl, rfl, ?_⟩
      refine ⟨_, rfl, _, rfl, by omega, by omega, fun D hD => ?_⟩
      refine lc_drawn (fun n => 2 ≤ n ∧ n ≤ 1000000) B3 hD (by omega) (fun x => rfl) ?_ ?_
      · intro i H4 H5 Q' hi s4 B5 hq
        refine ⟨_, rfl, _, rfl, H4, b, g, 6, rfl, B5, dr _ (by decide) (by decide), fun z H6 z0 z1 B6 => ?_⟩
        refine ⟨_, _, rfl, rfl, _, _, rfl, rfl, .inl ⟨by omega, by omega⟩, ?_⟩
        refine hq _ _ ⟨?_, ?_⟩ B6
        · have h1 : (2 + r) * 1 ≤ (2 + r) * (1 + z) := Int.mul_le_mul_of_nonneg_left (by omega) (by omega)
          omega
        · have h1 : (2 + r) * (1 + z) ≤ 10 * (1 + z) := Int.mul_le_mul_of_nonneg_right (by omega) (by omega)
          omega
      · intro ms H4 hl hm B5
        exact ⟨D, _, rfl, .inl ⟨.of (B5.sub _ _ upd_same), fin ms D H4 ⟨by omega, by omega, hm⟩ B5 (B3.sub.free hD)⟩⟩
    -- way == 2
    refine ⟨_, rfl, rfl, _, rfl, ite2 (fun _ => ?_) (fun _ => ?_)⟩
    · refine ⟨_, rfl, _, rfl, by omega, by omega, fun D hD => ?_⟩
      refine lc_drawn (fun n => 2 ≤ n ∧ n ≤ 1000000) B2 hD (by omega) (fun x => rfl) ?_ ?_
      · intro i H4 H5 Q' hi s4 B5 hq
        refine ⟨_, rfl, 10, 6, rfl, rfl, ⟨by decide, by decide, by decide⟩, 10, 6, rfl, rfl, ⟨by decide, by decide, by decide⟩, _, 1, rfl, rfl, ?_⟩
        refine ⟨_, rfl, H4, b, g, 999999, rfl, B5, dr _ (by decide) (by decide), fun z H6 z0 z1 B6 => ?_⟩
        refine ⟨_, _, rfl, rfl, by show 3 ≤ sizeLine; decide, fun p np => ?_⟩
        refine ⟨_, b, g, p, _, rfl, B6.new np, .inl (.of upd_same), (fun e => nomatch e), by show 3 ≤ 100000; decide, fun j x H7 hj B7 => ?_⟩
        have hx : ∃ n : Int, x = .int n ∧ 2 ≤ n ∧ n ≤ 1000000 := by
          match j, hj with
          | 0, hj => exact ⟨1000000, (Option.some.inj hj).symm, by decide, by decide⟩
          | 1, hj => exact ⟨999999, (Option.some.inj hj).symm, by decide, by decide⟩
          | 2, hj => exact ⟨2 + z, (Option.some.inj hj).symm, by omega, by omega⟩
        obtain ⟨n, rfl, hn⟩ := hx
        exact hq n H7 hn (B7.less (same_new (B6.sub.free np)))
      · intro ms H4 hl hm B5
        exact ⟨D, _, rfl, .inl ⟨.of (B5.sub _ _ upd_same), fin ms D H4 ⟨by omega, by omega, hm⟩ B5 (B2.sub.free hD)⟩⟩
    -- way == 3
    refine ⟨_, rfl, rfl, _, rfl, ite2 (fun _ => ?_) (fun _ => ?_)⟩
    · refine ⟨10, rfl, by decide, by decide, fun D hD => ?_⟩
      refine lc_drawn (fun n => 2 ≤ n ∧ n ≤ 1000000) B2 hD (by decide) (fun x => rfl) ?_ ?_
      · intro i H4 H5 Q' hi s4 B5 hq
        refine ⟨_, rfl, H4, b, g, 30, rfl, B5, dr _ (by decide) (by decide), fun z H6 z0 z1 B6 => ?_⟩
        exact ⟨_, _, rfl, rfl, hq _ _ ⟨by omega, by omega⟩ B6⟩
      · intro ms H4 hl hm B5
        have hl' : ms.length = 10 := hl
        exact ⟨D, _, rfl, .inl ⟨.of (B5.sub _ _ upd_same), fin ms D H4 ⟨by omega, by omega, hm⟩ B5 (B2.sub.free hD)⟩⟩
    -- else
    refine ⟨_, rfl, _, rfl, by omega, by omega, fun D hD => ?_⟩
    refine lc_drawn (fun n => 2 ≤ n ∧ n ≤ 1000000) B2 hD (by omega) (fun x => rfl) ?_ ?_
    · intro i H4 H5 Q' hi s4 B5 hq
      refine ⟨_, rfl, H4, b, g, 11, rfl, B5, dr _ (by decide) (by decide), fun z H6 z0 z1 B6 => ?_⟩
      exact ⟨_, _, rfl, rfl, hq _ _ ⟨by omega, by omega⟩ B6⟩
    · intro ms H4 hl hm B5
      exact ⟨D, _, rfl, .inl ⟨.of (B5.sub _ _ upd_same), fin ms D H4 ⟨by omega, by omega, hm⟩ B5 (B2.sub.free hD)⟩⟩
theorem ok__law_is_split (T : Txt K mg a) : FnG P w K mg base CX0 3 a.f__law_is_split a.d__law_is_split ["box", "machine", "number"] (sp__law_is_split K) := by
  have G__law_rest : FnOk P w K mg base CX0 1 a.f__law_rest a.d__law_rest ["number", "modulus"] (sp__law_rest K) := ok__law_rest T
  have G_agreeing : FnOk P w K mg base CX0 2 a.f_agreeing a.d_agreeing ["machine", "word", "number"] (sp_agreeing K) := ok_agreeing T
  have G_straying : FnOk P w K mg base CX0 2 a.f_straying a.d_straying ["machine", "word", "number"] (sp_straying K) := ok_straying T
  have G__law_pick : FnOk P w K mg base CX0 2 a.f__law_pick a.d__law_pick ["box", "items"] (sp__law_pick K) := ok__law_pick T
  have G__law_draw : FnOk P w K mg base CX0 1 a.f__law_draw a.d__law_draw ["box", "many"] (sp__law_draw K) := ok__law_draw T
  refine Sx.okG T._law_is_split.F sc__law_is_split (fun vs H Q E h => ?_) (fun cdv A outer s H vs Q E hg hr h => ?_)
  · obtain ⟨_, _, _, _, _, _, rfl, _⟩ := h
    rfl
  · have hu := hu_of hr
    obtain ⟨H0, b, g, t, ns, n, rfl, B, hT, hm, q⟩ := h
    have ten := hm.ten
    refine ⟨_, (pss_cons (ps_set (i := 3) sc__law_is_split.nd rfl (by first | exact Or.inl rfl | exact Or.inr rfl) (pe_lst pa_nil))
      (pss_cons (ps_for PassesOwn.never rfl (show PI _ _ _ (iSeq K _) from pi_seq (pv 1)) (pg_name (i := 4) sc__law_is_split.nd rfl (by first | exact Or.inl rfl | exact Or.inr rfl)) (pss_cons (ps_set (i := 10) sc__law_is_split.nd rfl (by first | exact Or.inl rfl | exact Or.inr rfl) (pe_call G__law_rest (hr.mono (by decide)) (by rfl) T._law_rest.m T._law_rest.F.kp T._law_rest.b .nil pass0 (pa_cons (pv 2) (pa_cons (pv 4) pa_nil))))
        (pss_one (ps_expr (show PE _ _ (tBM K "list" _ _ _) from pe_bm PySem.F.plainAttrs_list PySem.F.slot_list_append PySem.F.type_list_append mt_append (pv 3) (pa_cons (pe_call G__law_pick hr (by rfl) T._law_pick.m T._law_pick.F.kp T._law_pick.b .nil pass0 (pa_cons (pv 0) (pa_cons (pe_lst (pa_cons (pv 10) (pa_cons (pv 10) (pa_cons (pv 10) (pa_cons pe_non (pa_cons (pe_call G__law_draw (hr.mono (by decide)) (by rfl) T._law_draw.m T._law_draw.F.kp T._law_draw.b .nil pass0 (pa_cons (pv 0) (pa_cons (pv 4) pa_nil))) (pa_cons (pe_call G__law_rest (hr.mono (by decide)) (by rfl) T._law_rest.m T._law_rest.F.kp T._law_rest.b .nil pass0 (pa_cons (pe_op op_add (pv 10) pe_int) (pa_cons (pv 4) pa_nil))) pa_nil))))))) pa_nil))) pa_nil))))))
      (pss_cons (ps_set (i := 3) sc__law_is_split.nd rfl (by first | exact Or.inl rfl | exact Or.inr rfl) (pe_callTy (show CallR _ _ (rTupS K) from call_tuple_of) (by rfl) T.b_tuple (by decide +kernel) (pa_cons (pv 3) pa_nil)))
      (pss_cons (ps_setLc (i := 5) (own := [("lane", 11)]) rfl sc__law_is_split.nd rfl rfl (sw_true rfl rfl rfl (by decide +kernel)) (pi_range1 rfl T.b_range (pa_cons (pe_callB (show CallR _ _ (rLenS K) from call_len_seq) (by rfl) T.b_len (by decide +kernel) (pa_cons (pv 1) pa_nil)) pa_nil)) (blkOk_by (N := ["box", "machine", "number", "word", "modulus", "spoken", "fit", "unfit", "known", "told", "rest", "lane"]) (sc := defScope s__law_is_split) (by decide +kernel)) (fun _ _ _ _ _ => (pg_name (i := 11) sc__law_is_split.nd rfl (by first | exact Or.inl rfl | exact Or.inr rfl))) (fun _ _ _ _ _ => (pts_one (pt_cmpR op_notN (pe_ix (show IxR _ (rIx K) from ix_seq) (pv 3) (pv 11) (fun _ _ => rfl)) pe_non (nomark _)))) (fun _ _ _ _ _ => (pv 11)))
      (pss_cons (ps_set (i := 6) sc__law_is_split.nd rfl (by first | exact Or.inl rfl | exact Or.inr rfl) (pe_callTy (show CallR _ _ (rTupS K) from call_tuple_of) (by rfl) T.b_tuple (by decide +kernel) (pa_cons (pe_lc (own := [("lane", 11)]) rfl sc__law_is_split.nd (show PI _ _ _ (iSeq K _) from pi_seq (pv 5)) (blkOk_by (N := ["box", "machine", "number", "word", "modulus", "spoken", "fit", "unfit", "known", "told", "rest", "lane"]) (sc := defScope s__law_is_split) (by decide +kernel)) (fun _ _ _ _ _ => (pg_name (i := 11) sc__law_is_split.nd rfl (by first | exact Or.inl rfl | exact Or.inr rfl))) (fun _ _ _ _ _ => (pts_one (pt_cmpR op_eq (pe_ix (show IxR _ (rIx K) from ix_seq) (pv 3) (pv 11) (fun _ _ => rfl)) (pe_call G__law_rest (hr.mono (by decide)) (by rfl) T._law_rest.m T._law_rest.F.kp T._law_rest.b .nil pass0 (pa_cons (pv 2) (pa_cons (pe_ix (show IxR _ (rIx K) from ix_seq) (pv 1) (pv 11) (fun _ _ => rfl)) pa_nil))) (nomark _)))) (fun _ _ _ _ _ => (pv 11))) pa_nil)))
      (pss_cons (ps_set (i := 7) sc__law_is_split.nd rfl (by first | exact Or.inl rfl | exact Or.inr rfl) (pe_callTy (show CallR _ _ (rTupS K) from call_tuple_of) (by rfl) T.b_tuple (by decide +kernel) (pa_cons (pe_lc (own := [("lane", 11)]) rfl sc__law_is_split.nd (show PI _ _ _ (iSeq K _) from pi_seq (pv 5)) (blkOk_by (N := ["box", "machine", "number", "word", "modulus", "spoken", "fit", "unfit", "known", "told", "rest", "lane"]) (sc := defScope s__law_is_split) (by decide +kernel)) (fun _ _ _ _ _ => (pg_name (i := 11) sc__law_is_split.nd rfl (by first | exact Or.inl rfl | exact Or.inr rfl))) (fun _ _ _ _ _ => (pts_one (pt_cmpR (show OpR _ _ (rIn K true) from op_notIn_seq) (pv 11) (pv 6) (by rfl)))) (fun _ _ _ _ _ => (pv 11))) pa_nil)))
      (pss_cons (ps_set (i := 8) sc__law_is_split.nd rfl (by first | exact Or.inl rfl | exact Or.inr rfl) (pe_callB (show CallR _ _ (rShow K) from call_show hg hr.units) (by rfl) T.b_repr (by decide +kernel) (pa_cons (pe_lst (pa_cons (pv 1) (pa_cons (pv 3) pa_nil))) pa_nil)))
      (pss_cons (ps_set (i := 9) sc__law_is_split.nd rfl (by first | exact Or.inl rfl | exact Or.inr rfl) (pe_lst (pa_cons (pe_call G_agreeing hr (by rfl) T.agreeing.m T.agreeing.F.kp T.agreeing.b .nil pass0 (pa_cons (pv 1) (pa_cons (pv 3) (pa_cons (pv 2) pa_nil)))) (pa_cons (pe_call G_straying hr (by rfl) T.straying.m T.straying.F.kp T.straying.b .nil pass0 (pa_cons (pv 1) (pa_cons (pv 3) (pa_cons (pv 2) pa_nil)))) pa_nil))))
      (pss_cons (ps_if (PW.pt (pw_or (pt_cmpR op_ne (pe_callB (show CallR _ _ (rShow K) from call_show hg hr.units) (by rfl) T.b_repr (by decide +kernel) (pa_cons (pv 9) pa_nil)) (pe_callB (show CallR _ _ (rShow K) from call_show hg hr.units) (by rfl) T.b_repr (by decide +kernel) (pa_cons (pe_lst (pa_cons (pv 6) (pa_cons (pv 7) pa_nil))) pa_nil)) (nomark _)) (pw_or1 (pt_cmpR op_ne (pe_callB (show CallR _ _ (rShow K) from call_show hg hr.units) (by rfl) T.b_repr (by decide +kernel) (pa_cons (pe_lst (pa_cons (pv 1) (pa_cons (pv 3) pa_nil))) pa_nil)) (pv 8) (nomark _))))) (pss_one (ps_ret pe_bl)) pss_nil)
      (pss_cons (ps_set (i := 9) sc__law_is_split.nd rfl (by first | exact Or.inl rfl | exact Or.inr rfl) (pe_lst (pa_cons (pe_callKs G_agreeing hr (by rfl) T.agreeing.m T.agreeing.F.kp (kb_agreeing_number_word_machine T) pass0 (pk_cons (pv 2) (pk_cons (pv 3) (pk_cons (pv 1) pk_nil)))) (pa_cons (pe_callKs G_straying hr (by rfl) T.straying.m T.straying.F.kp (kb_straying_number_word_machine T) pass0 (pk_cons (pv 2) (pk_cons (pv 3) (pk_cons (pv 1) pk_nil)))) pa_nil))))
      (pss_one (ps_ret (pe_cmpR op_eq (pe_callB (show CallR _ _ (rShow K) from call_show hg hr.units) (by rfl) T.b_repr (by decide +kernel) (pa_cons (pv 9) pa_nil)) (pe_callB (show CallR _ _ (rShow K) from call_show hg hr.units) (by rfl) T.b_repr (by decide +kernel) (pa_cons (pe_lst (pa_cons (pv 6) (pa_cons (pv 7) pa_nil))) pa_nil)) (nomark _)))))))))))))), ?_⟩
    -- word = []; the loop
    refine ⟨Nat.zero_le _, fun p np => ?_⟩
    have n0 : H0 p = none := B.sub.free np
    refine .inr ⟨_, rfl, t, rfl, ⟨_, Sx.Same.tup (B.sub.trans (same_new np)) hT⟩, for_tup (K := K) (a := t) (xs := ns.map V.int) (fun i σ H' => ∃ (ws : List (Option Int)) (v4 v10 : Option V), σ = [some (.ref b), some (.ref t), some (.int n), some (.ref p), v4, none, none, none, none, none, v10, none] ∧
        ws.length = i ∧ (∀ r, some r ∈ ws → 0 ≤ r ∧ r < 1000000) ∧ Bs (upd H0 p (.lst (ws.map vO))) H' b g)
      ⟨[], none, none, rfl, rfl, (fun _ z => nomatch z), B.new np⟩ (fun i σ H' _ ⟨ws, _, _, _, _, _, B1⟩ => Sx.Same.tup ((same_new n0).trans B1.sub) hT) ?_ ?_⟩
    · rintro i x σ H1 hx ⟨ws, v4, v10, rfl, hl, hw, B1⟩
      have hil := (List.getElem?_eq_some_iff.mp hx).1
      rw [List.length_map] at hil
      rw [List.getElem?_map] at hx
      obtain ⟨m, hm1, rfl⟩ := Option.map_eq_some_iff.mp hx
      obtain ⟨m2, m3⟩ := hm.mod m (List.mem_of_getElem? hm1)
      have md : ∀ k : Int, 0 ≤ k % m ∧ k % m < 1000000 := fun k => ⟨Int.emod_nonneg k (by omega), by have := Int.emod_lt_of_pos k (show 0 < m by omega); omega⟩
      refine ⟨_, rfl, _, rfl, n, m, rfl, by omega, by omega, ?_⟩
      have e1 : H1 p = some (.lst (ws.map vO)) := B1.sub _ _ upd_same
      refine ⟨_, rfl, .inl ⟨rfl, _, .of e1⟩, ?_⟩
      refine ⟨_, rfl, _, rfl, _, rfl, _, rfl, _, rfl, _, rfl, _, b, g, m, rfl, B1, small_of (by omega) (by omega), fun r H2 r0 r1 B2 => ?_⟩
      refine ⟨_, rfl, _, 1, rfl, rfl, _, rfl, _, m, rfl, by omega, by omega, ?_⟩
      refine ⟨by show 6 ≤ sizeLine; decide, fun l nl => ?_⟩
      refine ⟨_, b, g, l, [some (n % m), some (n % m), some (n % m), none, some r, some ((n % m + 1) % m)].map vO, rfl, B2.new nl, .inl (.of upd_same), (fun z => nomatch z), by show 6 ≤ 100000; decide, fun j x H3 hj B3 => ?_⟩
      rw [List.getElem?_map] at hj
      obtain ⟨o, ho, rfl⟩ := Option.map_eq_some_iff.mp hj
      have hmem := List.mem_of_getElem? ho
      have ho2 : ∀ k, some k = o → 0 ≤ k ∧ k < 1000000 := by
        rintro k rfl
        have h' : k = n % m ∨ k = r ∨ k = (n % m + 1) % m := by simpa using hmem
        rcases h' with rfl | rfl | rfl
        · exact md n
        · exact ⟨r0, by omega⟩
        · exact md _
      have B4 := B3.less (same_new (B2.sub.free nl))
      have e3 : H3 p = some (.lst (ws.map vO)) := B4.sub _ _ upd_same
      refine ⟨p, ws.map vO, vO o, rfl, rfl, e3, ?_, ?_⟩
      · rw [List.length_map]
        exact Nat.lt_of_lt_of_le (show _ < 1000 by omega) (by decide)
      · have B5 := B4.put (o := .lst ((ws ++ [o]).map vO)) upd_same
        rw [upd_upd, List.map_append] at B5
        refine ⟨ws ++ [o], _, _, rfl, by rw [List.length_append, hl]; rfl, fun k hk => ?_, ?_⟩
        · rcases List.mem_append.mp hk with h | h
          · exact hw k h
          · exact ho2 k (List.mem_singleton.mp h)
        · rw [List.map_append]
          exact B5
    rintro σ H1 ⟨ws, v4, v10, rfl, hl, hw, B1⟩
    rw [List.length_map] at hl
    have isW : IsWord ws := ⟨by omega, hw⟩
    -- word = tuple(word)
    refine ⟨_, rfl, p, _, rfl, .inl ⟨.of (B1.sub _ _ upd_same), fun w nw => ?_⟩⟩
    have B2 : Bs H0 (upd H1 w (.tup (ws.map vO))) b g := (B1.less (same_new n0)).more (same_new nw)
    have hW : (upd H1 w (.tup (ws.map vO))) w = some (.tup (ws.map vO)) := upd_same
    generalize upd H1 w (.tup (ws.map vO)) = Hc at B2 hW ⊢
    have hTc : SqT K Hc t (ns.map V.int) := Sx.Same.tup B2.sub hT
    -- spoken
    refine ⟨_, rfl, t, _, rfl, .inr hTc, ((ns.map V.int).length : Nat), rfl, by omega, ?_, fun D hD => ?_⟩
    · rw [List.length_map]
      omega
    rw [List.length_map, Int.toNat_natCast]
    refine lc_reckon walk_range0 (zs := List.range ns.length) List.length_range (fun i => !decide (vO (ws.getD i none) = .non)) (fun i => .int (i : Nat)) (by rw [List.length_range]; omega) hD (fun _ _ => trivial) ?_ ?_
    · rintro i z x H2 H3 hz s2 ⟨rfl, rfl⟩
      obtain ⟨rfl, hi⟩ := range_at hz
      refine ⟨Same.refl _, _, fun Q q => q, rfl, fun Q q => ?_, fun _ H4 Q _ s4 q => ⟨_, rfl, q _ (Same.refl _)⟩⟩
      refine ⟨_, rfl, _, rfl, .inr (.inl ⟨w, _, _, vO (ws.getD i none), rfl, rfl, .of (s2 _ _ hW), atI_nat (j := i) ?_, rfl, _, rfl, q _ (Same.refl _)⟩)⟩
      rw [List.getElem?_map, getD_some none (by omega)]
      rfl
    intro H2 s2 e2
    have e2 : H2 D = some (.lst (nI (spoke ws ns.length))) := e2
    -- fit
    refine .inl ⟨_, rfl, D, rfl, ⟨_, .of e2⟩, fun D2 hD2 => ?_⟩
    have lt_sp : ∀ i ∈ spoke ws ns.length, i < ns.length := fun i hi => List.mem_range.mp (List.mem_filter.mp hi).1
    have len_sp : (spoke ws ns.length).length ≤ 10 := (lanes_small ten).2
    refine lc_reckon (walk_list (xs := nI (spoke ws ns.length))) (zs := spoke ws ns.length) (List.length_map _).symm (fun i => decide (vO (ws.getD i none) = .int (n % ns.getD i 0))) (fun i => .int (i : Nat)) (by omega) hD2 (fun H3 s => .of (s _ _ e2)) ?_ ?_
    · rintro k i x H3 H4 hz s3 ⟨rfl, hx⟩
      have hi := lt_sp i (List.mem_of_getElem? hz)
      unfold nI at hx
      rw [List.getElem?_map, hz] at hx
      obtain rfl : V.int (i : Nat) = x := Option.some.inj hx
      obtain ⟨m2, m3⟩ := hm.mod (ns.getD i 0) (List.mem_of_getElem? (getD_some 0 hi))
      refine ⟨Same.refl _, _, fun Q q => q, rfl, fun Q q => ?_, fun _ H5 Q _ s5 q => ⟨_, rfl, q _ (Same.refl _)⟩⟩
      refine ⟨_, rfl, _, rfl, .inr (.inl ⟨w, _, _, vO (ws.getD i none), rfl, rfl, .of (s3 _ _ (s2 _ _ hW)), atI_nat (j := i) ?_, ?_⟩)⟩
      · rw [List.getElem?_map, getD_some none (by omega)]
        rfl
      · refine ⟨_, rfl, _, rfl, _, rfl, .inr (.inl ⟨t, _, _, V.int (ns.getD i 0), rfl, rfl, Sx.Same.tup (s2.trans s3) hTc, atI_nat (j := i) ?_, n, ns.getD i 0, rfl, by omega, by omega, ?_⟩)⟩
        · rw [List.getElem?_map, getD_some 0 hi]
          rfl
        · refine ⟨?_, _, rfl, q _ (Same.refl _)⟩
          cases ws.getD i none <;> rfl
    intro H3 s3 e3
    have e3 : H3 D2 = some (.lst (nI (fitOf ns ws n (spoke ws ns.length)))) := e3
    rw [fit_eq hl] at e3
    refine ⟨D2, _, rfl, .inl ⟨.of e3, fun f nf => ?_⟩⟩
    have s4 : Same H3 (upd H3 f (.tup (nI (agree ns ws n)))) := same_new nf
    have e4 : (upd H3 f (.tup (nI (agree ns ws n)))) f = some (.tup (nI (agree ns ws n))) := upd_same
    generalize upd H3 f (.tup (nI (agree ns ws n))) = H4 at s4 e4 ⊢
    -- unfit
    have e2' : H4 D = some (.lst (nI (spoke ws ns.length))) := s4 _ _ (s3 _ _ e2)
    refine .inl ⟨_, rfl, D, rfl, ⟨_, .of e2'⟩, fun D3 hD3 => ?_⟩
    refine lc_reckon (walk_list (xs := nI (spoke ws ns.length))) (zs := spoke ws ns.length) (List.length_map _).symm (fun i => !inV (.int (i : Nat)) (nI (agree ns ws n))) (fun i => .int (i : Nat)) (by omega) hD3 (fun H3 s => .of (s _ _ e2')) ?_ ?_
    · rintro k i x H5 H6 hz s5 ⟨rfl, hx⟩
      unfold nI at hx
      rw [List.getElem?_map, hz] at hx
      obtain rfl : V.int (i : Nat) = x := Option.some.inj hx
      refine ⟨Same.refl _, _, fun Q q => q, rfl, fun Q q => ?_, fun _ H5 Q _ s5 q => ⟨_, rfl, q _ (Same.refl _)⟩⟩
      exact ⟨_, rfl, _, rfl, f, _, rfl, .inr (.of (s5 _ _ e4)), rfl, flat_nI _, _, rfl, q _ (Same.refl _)⟩
    intro H5 s5 e5
    have e5 : H5 D3 = some (.lst (nI (unfitOf (spoke ws ns.length) (agree ns ws n)))) := e5
    rw [unfit_eq hl] at e5
    refine ⟨D3, _, rfl, .inl ⟨.of e5, fun u nu => ?_⟩⟩
    have s6 : Same H5 (upd H5 u (.tup (nI (stray ns ws n)))) := same_new nu
    have e6 : (upd H5 u (.tup (nI (stray ns ws n)))) u = some (.tup (nI (stray ns ws n))) := upd_same
    generalize upd H5 u (.tup (nI (stray ns ws n))) = H6 at s6 e6 ⊢
    have sc : Same Hc H6 := (((s2.trans s3).trans s4).trans s5).trans s6
    have ef : H6 f = some (.tup (nI (agree ns ws n))) := s6 _ _ (s5 _ _ e4)
    -- the data that is shown
    have rm : Row (.tuple (ns.map PyData.int)) := Row.mach hm
    have rw' : Row (.tuple (ws.map dO)) := Row.word isW
    have ra : Row (.tuple (dI (agree ns ws n))) := .places (by unfold agree; rw [hl]; exact (lanes_small ten).1) (by unfold agree; rw [hl]; exact (lanes_small ten).2)
    have rs : Row (.tuple (dI (stray ns ws n))) := .places (by unfold stray; rw [hl]; exact (lanes_small ten).1) (by unfold stray; rw [hl]; exact (lanes_small ten).2)
    have dm : ∀ {H' : Hp}, Same Hc H' → Dp K H' (.ref t) (.tuple (ns.map PyData.int)) := fun s => .tup (Sx.Same.tup s hTc) (dpa_ints ns)
    have dw : ∀ {H' : Hp}, Same Hc H' → Dp K H' (.ref w) (.tuple (ws.map dO)) := fun s => .tup (.of (s _ _ hW)) (dpa_opts ws)
    have two : ∀ {H' : Hp} {l x y : Addr} {d1 d2 : PyData}, H' l = some (.lst [.ref x, .ref y]) → Dp K H' (.ref x) d1 → Dp K H' (.ref y) d2 → Dp K H' (.ref l) (.list [d1, d2]) := fun e a b => .lst (.of e) (.cons a (.cons b .nil))
    have dn : ∀ {H' : Hp} {x : Addr} {l : List Nat}, H' x = some (.tup (nI l)) → Dp K H' (.ref x) (.tuple (dI l)) := fun e => .tup (.of e) (dpa_nI _)
    -- known
    refine ⟨_, rfl, _, rfl, by show 2 ≤ sizeLine; decide, fun l nl => ?_⟩
    have s7 : Same H6 (upd H6 l (.lst [.ref t, .ref w])) := same_new nl
    refine ⟨_, _, rfl, two upd_same (dm (sc.trans s7)) (dw (sc.trans s7)), Row.two rm rw', ?_⟩
    generalize upd H6 l (.lst [.ref t, .ref w]) = H7 at s7 ⊢
    have c7 := sc.trans s7
    -- told
    refine ⟨_, rfl, _, rfl, _, rfl, t, w, ns, ws, n, rfl, Sx.Same.tup c7 hTc, .of (c7 _ _ hW), hm, hl, fun l1 H8 s8 n8 e8 => ?_⟩
    have c8 := c7.trans s8
    refine ⟨_, rfl, _, rfl, _, rfl, t, w, ns, ws, n, rfl, Sx.Same.tup c8 hTc, .of (c8 _ _ hW), hm, hl, fun l2 H9 s9 n9 e9 => ?_⟩
    refine ⟨by show 2 ≤ sizeLine; decide, fun l3 n3 => ?_⟩
    have s10 : Same H9 (upd H9 l3 (.lst [.ref l1, .ref l2])) := same_new n3
    have e10 : (upd H9 l3 (.lst [.ref l1, .ref l2])) l3 = some (.lst [.ref l1, .ref l2]) := upd_same
    generalize upd H9 l3 (.lst [.ref l1, .ref l2]) = H10 at s10 e10 ⊢
    have c10 := (c8.trans s9).trans s10
    have t10 : Same H6 H10 := ((s7.trans s8).trans s9).trans s10
    -- the first test
    refine ⟨_, rfl, _, _, rfl, two e10 (dn (s10 _ _ (s9 _ _ e8))) (dn (s10 _ _ e9)), Row.two ra rs, ?_⟩
    refine ⟨_, rfl, _, rfl, by show 2 ≤ sizeLine; decide, fun l4 n4 => ?_⟩
    have s11 : Same H10 (upd H10 l4 (.lst [.ref f, .ref u])) := same_new n4
    refine ⟨_, _, rfl, two upd_same (dn (s11 _ _ (t10 _ _ ef))) (dn (s11 _ _ (t10 _ _ e6))), Row.two ra rs, rfl, _, rfl, ?_⟩
    generalize upd H10 l4 (.lst [.ref f, .ref u]) = H11 at s11 ⊢
    refine iteNS rfl ?_
    refine ⟨_, rfl, _, rfl, by show 2 ≤ sizeLine; decide, fun l5 n5 => ?_⟩
    have s12 : Same H11 (upd H11 l5 (.lst [.ref t, .ref w])) := same_new n5
    have c12 := (c10.trans s11).trans s12
    refine ⟨_, _, rfl, two upd_same (dm c12) (dw c12), Row.two rm rw', _, rfl, rfl, _, rfl, ?_⟩
    generalize upd H11 l5 (.lst [.ref t, .ref w]) = H12 at s12 c12 ⊢
    refine iteNS rfl ?_
    -- by names
    refine ⟨_, rfl, _, rfl, _, rfl, t, w, ns, ws, n, rfl, Sx.Same.tup c12 hTc, .of (c12 _ _ hW), hm, hl, fun k1 H13 s13 n13 e13 => ?_⟩
    have c13 := c12.trans s13
    refine ⟨_, rfl, _, rfl, _, rfl, t, w, ns, ws, n, rfl, Sx.Same.tup c13 hTc, .of (c13 _ _ hW), hm, hl, fun k2 H14 s14 n14 e14 => ?_⟩
    refine ⟨by show 2 ≤ sizeLine; decide, fun k3 m3 => ?_⟩
    have s15 : Same H14 (upd H14 k3 (.lst [.ref k1, .ref k2])) := same_new m3
    have e15 : (upd H14 k3 (.lst [.ref k1, .ref k2])) k3 = some (.lst [.ref k1, .ref k2]) := upd_same
    generalize upd H14 k3 (.lst [.ref k1, .ref k2]) = H15 at s15 e15 ⊢
    have t15 : Same H6 H15 := ((((t10.trans s11).trans s12).trans s13).trans s14).trans s15
    refine ⟨_, rfl, _, _, rfl, two e15 (dn (s15 _ _ (s14 _ _ e13))) (dn (s15 _ _ e14)), Row.two ra rs, ?_⟩
    refine ⟨_, rfl, _, rfl, by show 2 ≤ sizeLine; decide, fun k4 m4 => ?_⟩
    have s16 : Same H15 (upd H15 k4 (.lst [.ref f, .ref u])) := same_new m4
    refine ⟨_, _, rfl, two upd_same (dn (s16 _ _ (t15 _ _ ef))) (dn (s16 _ _ (t15 _ _ e6))), Row.two ra rs, rfl, ?_⟩
    rw [decide_eq_true rfl]
    exact q _ (B2.more (sc.trans (t15.trans s16)))
theorem ok_law (T : Txt K mg a) : FnG P w K mg base CX0 4 a.f_law a.d_law ["script"] (sp_law K) := by
  have G__law_box : FnOk P w K mg base CX0 1 a.f__law_box a.d__law_box ["script"] (sp__law_box K) := ok__law_box T
  have G__law_machine : FnOk P w K mg base CX0 3 a.f__law_machine a.d__law_machine ["box"] (sp__law_machine K) := ok__law_machine T
  have G__law_number : FnOk P w K mg base CX0 3 a.f__law_number a.d__law_number ["box"] (sp__law_number K) := ok__law_number T
  have G__law_draw : FnOk P w K mg base CX0 1 a.f__law_draw a.d__law_draw ["box", "many"] (sp__law_draw K) := ok__law_draw T
  have G__law_great : FnOk P w K mg base CX0 2 a.f__law_great a.d__law_great ["box", "many"] (sp__law_great K) := ok__law_great T
  have G_rests_of : FnOk P w K mg base CX0 1 a.f_rests_of a.d_rests_of ["machine", "number"] (sp_rests_of K) := ok_rests_of T
  have G__law_rest : FnOk P w K mg base CX0 1 a.f__law_rest a.d__law_rest ["number", "modulus"] (sp__law_rest K) := ok__law_rest T
  have G__law_is_split : FnG P w K mg base CX0 3 a.f__law_is_split a.d__law_is_split ["box", "machine", "number"] (sp__law_is_split K) := ok__law_is_split T
  refine Sx.okG T.law.F sc_law (fun vs H Q E h => ?_) (fun cdv A outer s H vs Q E hg hr h => ?_)
  · obtain ⟨_, _, rfl, _⟩ := h
    rfl
  · have hu := hu_of hr
    obtain ⟨s0, xs0, rfl, hS, hlen, q⟩ := h
    have dr : ∀ m : Int, 0 < m → m < 2 ^ 60 → Small m := fun m h0 h1 => small_of h0 h1
    refine ⟨_, (pss_cons (ps_set (i := 1) sc_law.nd rfl (by first | exact Or.inl rfl | exact Or.inr rfl) (pe_call G__law_box (hr.mono (by decide)) (by rfl) T._law_box.m T._law_box.F.kp T._law_box.b .nil pass0 (pa_cons (pv 0) pa_nil)))
      (pss_cons (ps_for PassesOwn.never rfl (pi_range1 rfl T.b_range (pa_cons pe_int pa_nil)) (pg_name (i := 2) sc_law.nd rfl (by first | exact Or.inl rfl | exact Or.inr rfl)) (pss_cons (ps_asg (pe_tup (pa_cons (pe_call G__law_machine hr (by rfl) T._law_machine.m T._law_machine.F.kp T._law_machine.b .nil pass0 (pa_cons (pv 1) pa_nil)) (pa_cons (pe_call G__law_number hr (by rfl) T._law_number.m T._law_number.F.kp T._law_number.b .nil pass0 (pa_cons (pv 1) pa_nil)) pa_nil))) (show PG _ _ (gTup K 2 _) from pg_tup rfl (pgs_cons (pg_name (i := 10) sc_law.nd rfl (by first | exact Or.inl rfl | exact Or.inr rfl)) (pgs_cons (pg_name (i := 11) sc_law.nd rfl (by first | exact Or.inl rfl | exact Or.inr rfl)) pgs_nil))))
        (pss_cons (ps_set (i := 3) sc_law.nd rfl (by first | exact Or.inl rfl | exact Or.inr rfl) (pe_callTy (show CallR _ _ (rTupS K) from call_tuple_of) (by rfl) T.b_tuple (by decide +kernel) (pa_cons (pe_lc (own := [("modulus", 5)]) rfl sc_law.nd (show PI _ _ _ (iSeq K _) from pi_seq (pv 10)) (blkOk_by (N := ["script", "box", "turn", "due", "common", "modulus", "small", "other", "is_one", "third", "machine", "one", "first", "second", "number", "way", "told", "a", "b"]) (sc := defScope s_law) (by decide +kernel)) (fun _ _ _ _ _ => (pg_name (i := 5) sc_law.nd rfl (by first | exact Or.inl rfl | exact Or.inr rfl))) (fun _ _ _ _ _ => pts_nil) (fun _ _ _ _ _ => (pe_call G__law_rest (hr.mono (by decide)) (by rfl) T._law_rest.m T._law_rest.F.kp T._law_rest.b .nil pass0 (pa_cons (pv 11) (pa_cons (pv 5) pa_nil))))) pa_nil)))
        (pss_cons (ps_if (pt_cmpR op_ne (pe_callB (show CallR _ _ (rShow K) from call_show hg hr.units) (by rfl) T.b_repr (by decide +kernel) (pa_cons (pe_lst (pa_cons (pe_call G_rests_of (hr.mono (by decide)) (by rfl) T.rests_of.m T.rests_of.F.kp T.rests_of.b .nil pass0 (pa_cons (pv 10) (pa_cons (pv 11) pa_nil))) (pa_cons (pe_callKs G_rests_of (hr.mono (by decide)) (by rfl) T.rests_of.m T.rests_of.F.kp (kb_rests_of_number_machine T) pass0 (pk_cons (pv 11) (pk_cons (pv 10) pk_nil))) pa_nil))) pa_nil)) (pe_callB (show CallR _ _ (rShow K) from call_show hg hr.units) (by rfl) T.b_repr (by decide +kernel) (pa_cons (pe_lst (pa_cons (pv 3) (pa_cons (pv 3) pa_nil))) pa_nil)) (nomark _)) (pss_one (ps_ret pe_bl)) pss_nil)
        (pss_cons (ps_set (i := 4) sc_law.nd rfl (by first | exact Or.inl rfl | exact Or.inr rfl) pe_int)
        (pss_cons (ps_for PassesOwn.never rfl (show PI _ _ _ (iSeq K _) from pi_seq (pe_slice (show SlR _ (rSlA K) from sl_tupA) (pv 10) po_none (po_some (pe_call G__law_draw (hr.mono (by decide)) (by rfl) T._law_draw.m T._law_draw.F.kp T._law_draw.b .nil pass0 (pa_cons (pv 1) (pa_cons (pe_op op_add (pe_callB (show CallR _ _ (rLenS K) from call_len_seq) (by rfl) T.b_len (by decide +kernel) (pa_cons (pv 10) pa_nil)) pe_int) pa_nil)))))) (pg_name (i := 5) sc_law.nd rfl (by first | exact Or.inl rfl | exact Or.inr rfl)) (pss_one (ps_set (i := 4) sc_law.nd rfl (by first | exact Or.inl rfl | exact Or.inr rfl) (pe_op op_mul (pv 4) (pv 5)))))
        (pss_cons (ps_set (i := 6) sc_law.nd rfl (by first | exact Or.inl rfl | exact Or.inr rfl) (pe_op op_sub (pe_call G__law_draw (hr.mono (by decide)) (by rfl) T._law_draw.m T._law_draw.F.kp T._law_draw.b .nil pass0 (pa_cons (pv 1) (pa_cons pe_int pa_nil))) pe_int))
        (pss_cons (ps_set (i := 7) sc_law.nd rfl (by first | exact Or.inl rfl | exact Or.inr rfl) (pe_cut (pe_ifExp (pt_cmpR op_lt (pv 4) (pe_op op_pow pe_int pe_int) (nomark _)) (pe_op op_add (pv 6) (pe_op op_mul (pv 4) (pe_op op_sub (pe_call G__law_draw (hr.mono (by decide)) (by rfl) T._law_draw.m T._law_draw.F.kp T._law_draw.b .nil pass0 (pa_cons (pv 1) (pa_cons pe_int pa_nil))) pe_int))) (pv 11))))
        (pss_cons (ps_set (i := 8) sc_law.nd rfl (by first | exact Or.inl rfl | exact Or.inr rfl) (pe_cmpR (show OpR _ _ (rEqD K) from op_eqD hr.units) (pe_lc (own := [("modulus", 5)]) rfl sc_law.nd (show PI _ _ _ (iSeq K _) from pi_seq (pv 10)) (blkOk_by (N := ["script", "box", "turn", "due", "common", "modulus", "small", "other", "is_one", "third", "machine", "one", "first", "second", "number", "way", "told", "a", "b"]) (sc := defScope s_law) (by decide +kernel)) (fun _ _ _ _ _ => (pg_name (i := 5) sc_law.nd rfl (by first | exact Or.inl rfl | exact Or.inr rfl))) (fun _ _ _ _ _ => (pts_one (pt_cmpR op_ne (pe_call G__law_rest (hr.mono (by decide)) (by rfl) T._law_rest.m T._law_rest.F.kp T._law_rest.b .nil pass0 (pa_cons (pe_op op_sub (pv 7) (pv 6)) (pa_cons (pv 5) pa_nil))) pe_int (nomark _)))) (fun _ _ _ _ _ => pe_int)) (pe_lst pa_nil) (nomark _)))
        (pss_cons (ps_if (pt_cmpR op_ne (pe_cmpR (show OpR _ _ (rEqD K) from op_eqD hr.units) (pe_call G_rests_of (hr.mono (by decide)) (by rfl) T.rests_of.m T.rests_of.F.kp T.rests_of.b .nil pass0 (pa_cons (pv 10) (pa_cons (pv 6) pa_nil))) (pe_call G_rests_of (hr.mono (by decide)) (by rfl) T.rests_of.m T.rests_of.F.kp T.rests_of.b .nil pass0 (pa_cons (pv 10) (pa_cons (pv 7) pa_nil))) (nomark _)) (pv 8) (nomark _)) (pss_one (ps_ret pe_bl)) pss_nil)
        (pss_cons (ps_set (i := 9) sc_law.nd rfl (by first | exact Or.inl rfl | exact Or.inr rfl) (pe_op op_sub (pe_call G__law_great (hr.mono (by decide)) (by rfl) T._law_great.m T._law_great.F.kp T._law_great.b .nil pass0 (pa_cons (pv 1) (pa_cons (pe_op op_add pe_int (pe_call G__law_draw (hr.mono (by decide)) (by rfl) T._law_draw.m T._law_draw.F.kp T._law_draw.b .nil pass0 (pa_cons (pv 1) (pa_cons pe_int pa_nil)))) pa_nil))) (pe_call G__law_great (hr.mono (by decide)) (by rfl) T._law_great.m T._law_great.F.kp T._law_great.b .nil pass0 (pa_cons (pv 1) (pa_cons (pe_op op_add pe_int (pe_call G__law_draw (hr.mono (by decide)) (by rfl) T._law_draw.m T._law_draw.F.kp T._law_draw.b .nil pass0 (pa_cons (pv 1) (pa_cons pe_int pa_nil)))) pa_nil)))))
        (pss_cons (ps_par (i := 12) (j := 13) (by rfl) sc_law.nd rfl rfl (by decide) rfl rfl (pa_cons (pe_call G_rests_of (hr.mono (by decide)) (by rfl) T.rests_of.m T.rests_of.F.kp T.rests_of.b .nil pass0 (pa_cons (pv 10) (pa_cons (pv 6) pa_nil))) (pa_cons (pe_call G_rests_of (hr.mono (by decide)) (by rfl) T.rests_of.m T.rests_of.F.kp T.rests_of.b .nil pass0 (pa_cons (pv 10) (pa_cons (pv 9) pa_nil))) pa_nil)) (by rfl))
        (pss_cons (ps_for PassesOwn.never rfl (show PI _ _ _ (iSeq K _) from pi_seq (pe_tup (pa_cons (pe_tup (pa_cons (pe_op op_add (pv 6) (pv 9)) (pa_cons pe_int pa_nil))) (pa_cons (pe_tup (pa_cons (pe_op op_sub (pv 6) (pv 9)) (pa_cons pe_int pa_nil))) (pa_cons (pe_tup (pa_cons (pe_op op_mul (pv 6) (pv 9)) (pa_cons pe_int pa_nil))) pa_nil))))) (show PG _ _ (gTup K 2 _) from pg_tup rfl (pgs_cons (pg_name (i := 14) sc_law.nd rfl (by first | exact Or.inl rfl | exact Or.inr rfl)) (pgs_cons (pg_name (i := 15) sc_law.nd rfl (by first | exact Or.inl rfl | exact Or.inr rfl)) pgs_nil))) (pss_cons (ps_set (i := 16) sc_law.nd rfl (by first | exact Or.inl rfl | exact Or.inr rfl) (pe_lst pa_nil))
          (pss_cons (ps_for PassesOwn.never rfl (show PI _ _ _ (iZip3T K _) from pi_zip3T (by rfl) T.b_zip (pa_cons (pv 12) (pa_cons (pv 13) (pa_cons (pv 10) pa_nil)))) (show PG _ _ (gTup K 3 _) from pg_tup rfl (pgs_cons (pg_name (i := 17) sc_law.nd rfl (by first | exact Or.inl rfl | exact Or.inr rfl)) (pgs_cons (pg_name (i := 18) sc_law.nd rfl (by first | exact Or.inl rfl | exact Or.inr rfl)) (pgs_cons (pg_name (i := 5) sc_law.nd rfl (by first | exact Or.inl rfl | exact Or.inr rfl)) pgs_nil)))) (pss_one (ps_expr (show PE _ _ (tBM K "list" _ _ _) from pe_bm PySem.F.plainAttrs_list PySem.F.slot_list_append PySem.F.type_list_append mt_append (pv 16) (pa_cons (pe_call G__law_rest (hr.mono (by decide)) (by rfl) T._law_rest.m T._law_rest.F.kp T._law_rest.b .nil pass0 (pa_cons (pe_ix (show IxR _ (rIx K) from ix_seq) (pe_lst (pa_cons (pe_op op_add (pv 17) (pv 18)) (pa_cons (pe_op op_sub (pv 17) (pv 18)) (pa_cons (pe_op op_mul (pv 17) (pv 18)) pa_nil)))) (pv 15) (fun _ _ => rfl)) (pa_cons (pv 5) pa_nil))) pa_nil)))))
          (pss_one (ps_if (pt_cmpR op_ne (pe_callB (show CallR _ _ (rShow K) from call_show hg hr.units) (by rfl) T.b_repr (by decide +kernel) (pa_cons (pe_call G_rests_of (hr.mono (by decide)) (by rfl) T.rests_of.m T.rests_of.F.kp T.rests_of.b .nil pass0 (pa_cons (pv 10) (pa_cons (pv 14) pa_nil))) pa_nil)) (pe_callB (show CallR _ _ (rShow K) from call_show hg hr.units) (by rfl) T.b_repr (by decide +kernel) (pa_cons (pe_callTy (show CallR _ _ (rTupS K) from call_tuple_of) (by rfl) T.b_tuple (by decide +kernel) (pa_cons (pv 16) pa_nil)) pa_nil)) (nomark _)) (pss_one (ps_ret pe_bl)) pss_nil)))))
        (pss_one (ps_if (PW.pt (pw_or (pt_not (pt_val (pe_callG hg G__law_is_split hr (by rfl) T._law_is_split.m T._law_is_split.F.kp T._law_is_split.b pass0 (pa_cons (pv 1) (pa_cons (pv 10) (pa_cons (pv 11) pa_nil)))))) (pw_or1 (pt_not (pt_val (pe_callG hg G__law_is_split hr (by rfl) T._law_is_split.m T._law_is_split.F.kp T._law_is_split.b pass0 (pa_cons (pv 1) (pa_cons (pv 10) (pa_cons (pv 6) pa_nil))))))))) (pss_one (ps_ret pe_bl)) pss_nil)))))))))))))))
      (pss_one (ps_ret pe_bl)))), ?_⟩
    refine ⟨_, rfl, s0, xs0, rfl, hS, hlen, fun b g H1 B0 => ?_⟩
    refine ⟨4, rfl, by decide, by decide, for_range (lo := 0) (n := 4) (fun i σ H' => ∃ v2 v3 v4 v5 v6 v7 v8 v9 v10 v11 v12 v13 v14 v15 v16 v17 v18 : Option V, σ = [some (.ref s0), some (.ref b), v2, v3, v4, v5, v6, v7, v8, v9, v10, v11, v12, v13, v14, v15, v16, v17, v18] ∧ Bs H H' b g)
      ⟨none, none, none, none, none, none, none, none, none, none, none, none, none, none, none, none, none, rfl, B0⟩ ?_ ?_⟩
    rotate_left
    · rintro σ H' ⟨v2, v3, v4, v5, v6, v7, v8, v9, v10, v11, v12, v13, v14, v15, v16, v17, v18, rfl, B1⟩
      exact q _
    rintro turn σ H2 hturn ⟨v2, v3, v4, v5, v6, v7, v8, v9, v10, v11, v12, v13, v14, v15, v16, v17, v18, rfl, B1⟩
    -- machine, one
    refine ⟨_, rfl, H, b, g, rfl, B1, fun ns p H3 hm p0 hp pb pg B2 => ?_⟩
    have ten := hm.ten
    have B3 := B2.own hp pb pg
    have backH : Same H (upd H p (.tup (ns.map V.int))) := same_new p0
    refine ⟨_, rfl, upd H p (.tup (ns.map V.int)), b, g, rfl, B3, fun one H4 h1 B4 => ?_⟩
    refine ⟨by show 2 ≤ sizeLine; decide, fun l nl => ⟨l, _, rfl, .of upd_same, rfl, _, _, rfl, _, _, rfl, rfl, ?_⟩⟩
    have B5 := B4.more (same_new (o := .tup [.ref p, .int one]) nl)
    have hT0 : SqT K (upd H p (.tup (ns.map V.int))) p (ns.map V.int) := .of upd_same
    generalize upd H p (.tup (ns.map V.int)) = Hm at backH B3 B4 B5 hT0
    generalize upd H4 l (.tup [.ref p, .int one]) = H5 at B5 ⊢
    have md2 : ∀ m ∈ ns, 0 < m ∧ m < 2 ^ 60 := fun m h => by
      have := hm.mod m h
      omega
    -- due
    have hT5 : SqT K H5 p (ns.map V.int) := Sx.Same.tup B5.sub hT0
    refine .inr ⟨_, rfl, p, rfl, ⟨_, hT5⟩, fun D hD => ?_⟩
    refine lc_reckon (walk_tup (xs := ns.map V.int)) (zs := ns) (List.length_map _).symm (fun _ => true) (fun m => .int (one % m)) (by omega) hD (fun H6 s => Sx.Same.tup s hT5) ?_ ?_
    · rintro i m x H6 H7 hz s1 ⟨rfl, hx⟩
      rw [List.getElem?_map, hz] at hx
      obtain rfl : V.int m = x := Option.some.inj hx
      obtain ⟨m0, m1⟩ := md2 m (List.mem_of_getElem? hz)
      refine ⟨Same.refl _, _, fun Q q => q, rfl, fun Q q => q _ (Same.refl _), fun _ H8 Q _ s3 q => ?_⟩
      exact ⟨_, rfl, _, rfl, one, m, rfl, m0, m1, q _ (Same.refl _)⟩
    intro H6 s6 e6
    rw [List.filter_eq_self.mpr (fun _ _ => rfl)] at e6
    have e6 : H6 D = some (.lst ((rests ns one).map V.int)) := by
      rw [e6]
      unfold rests
      rw [List.map_map] <;> rfl
    refine ⟨D, _, rfl, .inl ⟨.of e6, fun due nd => ?_⟩⟩
    have s7 : Same H5 (upd H6 due (.tup ((rests ns one).map V.int))) := s6.trans (same_new nd)
    have ed : (upd H6 due (.tup ((rests ns one).map V.int))) due = some (.tup ((rests ns one).map V.int)) := upd_same
    generalize upd H6 due (.tup ((rests ns one).map V.int)) = H7 at s7 ed ⊢
    have rr : ∀ n : Int, Row (.tuple ((rests ns n).map PyData.int)) := fun n => .ints (by
      intro r hr
      unfold rests at hr
      obtain ⟨m, hmm, rfl⟩ := List.mem_map.mp hr
      have h2 := hm.mod m hmm
      have h3 := Int.emod_nonneg n (show m ≠ 0 by omega)
      have h4 := Int.emod_lt_of_pos n (show 0 < m by omega)
      exact Nat.lt_trans (show (n % m).natAbs < 1000000 by omega) (by decide +kernel)) (by unfold rests; rw [List.length_map]; omega)
    have two : ∀ {H' : Hp} {l x y : Addr} {d1 d2 : PyData}, H' l = some (.lst [.ref x, .ref y]) → Dp K H' (.ref x) d1 → Dp K H' (.ref y) d2 → Dp K H' (.ref l) (.list [d1, d2]) := fun e a b => .lst (.of e) (.cons a (.cons b .nil))
    have di : ∀ {H' : Hp} {x : Addr} {l : List Int}, H' x = some (.tup (l.map V.int)) → Dp K H' (.ref x) (.tuple (l.map PyData.int)) := fun e => .tup (.of e) (dpa_ints _)
    have hT7 := Sx.Same.tup s7 hT5
    -- repr([rests_of(machine, one), rests_of(number=one, machine=machine)]) != repr([due, due])
    refine ⟨_, rfl, _, rfl, p, ns, one, rfl, hT7, hm, fun r1 H8 s8 n8 e8 => ?_⟩
    refine ⟨_, rfl, _, rfl, p, ns, one, rfl, Sx.Same.tup s8 hT7, hm, fun r2 H9 s9 n9 e9 => ?_⟩
    refine ⟨by show 2 ≤ sizeLine; decide, fun l1 nl1 => ?_⟩
    have s10 : Same H9 (upd H9 l1 (.lst [.ref r1, .ref r2])) := same_new nl1
    refine ⟨_, _, rfl, two upd_same (di (s10 _ _ (s9 _ _ e8))) (di (s10 _ _ e9)), Row.two (rr one) (rr one), ?_⟩
    generalize upd H9 l1 (.lst [.ref r1, .ref r2]) = H10 at s10 ⊢
    refine ⟨_, rfl, _, rfl, by show 2 ≤ sizeLine; decide, fun l2 nl2 => ?_⟩
    have s11 : Same H10 (upd H10 l2 (.lst [.ref due, .ref due])) := same_new nl2
    have t11 : Same H7 (upd H10 l2 (.lst [.ref due, .ref due])) := ((s8.trans s9).trans s10).trans s11
    refine ⟨_, _, rfl, two upd_same (di (t11 _ _ ed)) (di (t11 _ _ ed)), Row.two (rr one) (rr one), rfl, _, rfl, ?_⟩
    have B11 := B5.more (s7.trans t11)
    generalize upd H10 l2 (.lst [.ref due, .ref due]) = H11 at s11 t11 B11 ⊢
    refine iteNS rfl ?_
    -- common = 1; for modulus in machine[:..]
    have hT11 := Sx.Same.tup (s7.trans t11) hT5
    refine .inr ⟨_, rfl, _, rfl, _, rfl, p, _, rfl, .inr hT11, _, _, rfl, rfl, Hm, b, g, _, rfl, B11, dr _ (by rw [List.length_map]; omega) (by rw [List.length_map]; omega), fun k H12 k0 k1 B12 => ⟨_, rfl, rSlA_of (Sx.Same.tup B12.sub hT0) fun o H13 hO s13 => ⟨o, rfl, ⟨_, hO⟩, ?_⟩⟩⟩
    have B13 := B12.more s13
    refine for_tup (K := K) (a := o) (xs := cutV (ns.map V.int) none (some k)) (fun i σ H' => ∃ (v5' : Option V) (c : Int), σ = [some (.ref s0), some (.ref b), some (.int (0 + (turn : Int))), some (.ref due), some (.int c), v5', v6, v7, v8, v9, some (.ref p), some (.int one), v12, v13, v14, v15, v16, v17, v18] ∧ H' = H13)
      ⟨_, 1, rfl, rfl⟩ (fun i σ H' _ ⟨_, _, _, e⟩ => by rw [e]; exact hO) ?_ ?_
    · rintro i x σ H' hx ⟨v5', c, rfl, rfl⟩
      obtain ⟨m, hmm, rfl⟩ := List.mem_map.mp (mem_cutV (List.mem_of_getElem? hx))
      obtain ⟨m0, m1⟩ := md2 m hmm
      exact ⟨_, rfl, _, rfl, c, m, rfl, rfl, .inr ⟨by omega, by omega⟩, _, _, rfl, rfl⟩
    rintro σ H14 ⟨v5', c, rfl, rfl⟩
    -- small, other
    refine ⟨_, rfl, Hm, b, g, 2000, rfl, B13, dr _ (by decide) (by decide), fun k2 H15 k3 k4 B15 => ⟨_, 1000, rfl, rfl, ?_⟩⟩
    generalize hsm : k2 - 1000 = small
    refine ⟨fun v H' => ∃ o : Int, v = .int o ∧ Bs Hm H' b g, ?_, ?_⟩
    · refine ⟨_, rfl, 10, 50, rfl, rfl, ⟨by decide, by decide, by decide⟩, _, _, rfl, rfl, _, rfl, ite2 (fun _ => ?_) (fun _ => ?_)⟩
      · refine ⟨_, rfl, _, rfl, _, rfl, Hm, b, g, 5, rfl, B15, dr _ (by decide) (by decide), fun k5 H16 k6 k7 B16 => ?_⟩
        exact ⟨k5, 2, rfl, rfl, c, k5 - 2, rfl, rfl, .inr ⟨by omega, by omega⟩, k2 - 1000, _, rfl, rfl, _, rfl, B16⟩
      · exact ⟨_, rfl, one, rfl, B15⟩
    rintro v H16 ⟨other, rfl, B16⟩
    have hT16 : SqT K H16 p (ns.map V.int) := Sx.Same.tup B16.sub hT0
    -- is_one
    refine .inr ⟨_, rfl, p, rfl, ⟨_, hT16⟩, fun D2 hD2 => ?_⟩
    refine lc_reckon (walk_tup (xs := ns.map V.int)) (zs := ns) (List.length_map _).symm (fun m => !decide (V.int ((other - small) % m) = .int 0)) (fun _ => .int 1) (by omega) hD2 (fun H6 s => Sx.Same.tup s hT16) ?_ ?_
    · rintro i m x H6 H7 hz s1 ⟨rfl, hx⟩
      rw [List.getElem?_map, hz] at hx
      obtain rfl : V.int m = x := Option.some.inj hx
      obtain ⟨m0, m1⟩ := md2 m (List.mem_of_getElem? hz)
      refine ⟨Same.refl _, _, fun Q q => q, rfl, fun Q q => ?_, fun _ H8 Q _ s3 q => q _ (Same.refl _)⟩
      subst hsm
      exact ⟨_, rfl, _, rfl, other, _, rfl, rfl, _, rfl, _, m, rfl, m0, m1, rfl, _, rfl, q _ (Same.refl _)⟩
    intro H17 s17 e17
    generalize hbad : (ns.filter fun m => !decide (V.int ((other - small) % m) = .int 0)) = bad at e17
    have e17' : H17 D2 = some (.lst ((bad.map fun _ => (1 : Int)).map V.int)) := by
      rw [e17, List.map_map] <;> rfl
    refine ⟨Nat.zero_le _, fun l3 nl3 => ?_⟩
    have s18 : Same H17 (upd H17 l3 (.lst [])) := same_new nl3
    refine ⟨_, _, .lst (.of (s18 _ _ e17')) (dpa_ints _), .lst (.of upd_same) .nil, shaped_ints _, shaped_ints [], ?_⟩
    rw [eqv_nil_ints]
    have eb : (bad.map fun _ => (1 : Int)).isEmpty = decide (rests ns small = rests ns other) := by
      rw [rests_alike, hbad]
      cases bad <;> rfl
    rw [eb]
    have B18 := B16.more (s17.trans s18)
    generalize upd H17 l3 (.lst []) = H18 at s18 B18 ⊢
    have hT18 : SqT K H18 p (ns.map V.int) := Sx.Same.tup B18.sub hT0
    -- (rests_of(machine, small) == rests_of(machine, other)) != is_one
    subst hsm
    refine ⟨_, rfl, _, rfl, p, ns, k2 - 1000, rfl, hT18, hm, fun r3 H19 s19 n19 e19 => ?_⟩
    refine ⟨_, rfl, _, rfl, p, ns, other, rfl, Sx.Same.tup s19 hT18, hm, fun r4 H20 s20 n20 e20 => ?_⟩
    refine ⟨_, _, di (s20 _ _ e19), di e20, shaped_tup_ints _, shaped_tup_ints _, ?_⟩
    rw [eqv_tup_ints]
    refine ⟨_, rfl, rfl, _, rfl, iteNS rfl ?_⟩
    have t20 : Same H18 H20 := s19.trans s20
    have B20 := B18.more t20
    -- third
    refine ⟨_, rfl, _, rfl, Hm, b, g, 4, rfl, B20, dr _ (by decide) (by decide), fun c1 H21 c2 c3 B21 => ?_⟩
    refine ⟨_, _, rfl, rfl, Hm, b, g, _, rfl, B21, by omega, by omega, fun g1 H22 g2 g3 B22 => ?_⟩
    refine ⟨_, rfl, _, rfl, Hm, b, g, 4, rfl, B22, dr _ (by decide) (by decide), fun c4 H23 c5 c6 B23 => ?_⟩
    refine ⟨_, _, rfl, rfl, Hm, b, g, _, rfl, B23, by omega, by omega, fun g4 H24 g5 g6 B24 => ⟨_, _, rfl, rfl, ?_⟩⟩
    have hT24 : SqT K H24 p (ns.map V.int) := Sx.Same.tup B24.sub hT0
    -- first, second
    refine ⟨_, rfl, _, rfl, p, ns, k2 - 1000, rfl, hT24, hm, fun f1 H25 s25 n25 e25 => ?_⟩
    refine ⟨_, rfl, _, rfl, p, ns, g1 - g4, rfl, Sx.Same.tup s25 hT24, hm, fun f2 H26 s26 n26 e26 => ⟨_, _, rfl, ?_⟩⟩
    have B26 := B24.more (s25.trans s26)
    have hT26 : SqT K H26 p (ns.map V.int) := Sx.Same.tup B26.sub hT0
    have e25' := s26 _ _ e25
    -- the three tuples
    generalize hthird : g1 - g4 = third
    refine .inr ⟨_, rfl, _, rfl, k2 - 1000, g1 - g4, rfl, rfl, by show 2 ≤ sizeLine; decide, fun q0 nq0 => ?_⟩
    have z0 : Same H26 (upd H26 q0 (.tup [.int (k2 - 1000 + (g1 - g4)), .int 0])) := same_new nq0
    have a0 : (upd H26 q0 (.tup [.int (k2 - 1000 + (g1 - g4)), .int 0])) q0 = some (.tup [.int (op3 0 (k2 - 1000) third), .int (0 : Nat)]) := by rw [upd_same, ← hthird]; rfl
    generalize upd H26 q0 (.tup [.int (k2 - 1000 + (g1 - g4)), .int 0]) = Q0 at z0 a0 ⊢
    refine ⟨_, rfl, _, rfl, k2 - 1000, g1 - g4, rfl, rfl, by show 2 ≤ sizeLine; decide, fun q1 nq1 => ?_⟩
    have z1 : Same Q0 (upd Q0 q1 (.tup [.int (k2 - 1000 - (g1 - g4)), .int 1])) := same_new nq1
    have a1 : (upd Q0 q1 (.tup [.int (k2 - 1000 - (g1 - g4)), .int 1])) q1 = some (.tup [.int (op3 1 (k2 - 1000) third), .int (1 : Nat)]) := by rw [upd_same, ← hthird]; rfl
    generalize upd Q0 q1 (.tup [.int (k2 - 1000 - (g1 - g4)), .int 1]) = Q1 at z1 a1 ⊢
    refine ⟨_, rfl, _, rfl, k2 - 1000, g1 - g4, rfl, rfl, .inl ⟨by omega, by omega⟩, by show 2 ≤ sizeLine; decide, fun q2 nq2 => ?_⟩
    have z2 : Same Q1 (upd Q1 q2 (.tup [.int ((k2 - 1000) * (g1 - g4)), .int 2])) := same_new nq2
    have a2 : (upd Q1 q2 (.tup [.int ((k2 - 1000) * (g1 - g4)), .int 2])) q2 = some (.tup [.int (op3 2 (k2 - 1000) third), .int (2 : Nat)]) := by rw [upd_same, ← hthird]; rfl
    generalize upd Q1 q2 (.tup [.int ((k2 - 1000) * (g1 - g4)), .int 2]) = Q2 at z2 a2 ⊢
    refine ⟨by show 3 ≤ sizeLine; decide, fun q3 nq3 => ?_⟩
    have z3 : Same Q2 (upd Q2 q3 (.tup [.ref q0, .ref q1, .ref q2])) := same_new nq3
    have a3 : (upd Q2 q3 (.tup [.ref q0, .ref q1, .ref q2])) q3 = some (.tup [.ref q0, .ref q1, .ref q2]) := upd_same
    generalize upd Q2 q3 (.tup [.ref q0, .ref q1, .ref q2]) = Q3 at z3 a3 ⊢
    have t3 : Same H26 Q3 := ((z0.trans z1).trans z2).trans z3
    have items : ∀ (j : Nat) (x : V), [V.ref q0, .ref q1, .ref q2][j]? = some x → j < 3 ∧ ∃ qj, x = .ref qj ∧ Q3 qj = some (.tup [.int (op3 j (k2 - 1000) third), .int (j : Nat)]) := by
      intro j x hj
      match j, hj with
      | 0, hj => exact ⟨by decide, q0, (Option.some.inj hj).symm, z3 _ _ (z2 _ _ (z1 _ _ a0))⟩
      | 1, hj => exact ⟨by decide, q1, (Option.some.inj hj).symm, z3 _ _ (z2 _ _ a1)⟩
      | 2, hj => exact ⟨by decide, q2, (Option.some.inj hj).symm, z3 _ _ a2⟩
    refine ⟨q3, rfl, ⟨_, .of a3⟩, for_tup (K := K) (a := q3) (xs := [V.ref q0, .ref q1, .ref q2]) (fun i σ H' => ∃ y2 y3 y4 w5 y7 y8 y9 w14 w15 w16 w17 w18 : Option V, σ = [some (.ref s0), some (.ref b), y2, y3, y4, w5, some (.int (k2 - 1000)), y7, y8, y9, some (.ref p), some (.int one), some (.ref f1), some (.ref f2), w14, w15, w16, w17, w18] ∧ Same Q3 H')
      ⟨_, _, _, _, _, _, _, _, _, _, _, _, rfl, Same.refl _⟩ (fun i σ H' _ ⟨_, _, _, _, _, _, _, _, _, _, _, _, _, s⟩ => .of (s _ _ a3)) ?_ ?_⟩
    · rintro j x σ R0 hj ⟨y2, y3, y4, w5, y7, y8, y9, w14, w15, w16, w17, w18, rfl, sR⟩
      obtain ⟨j3, qj, rfl, aj⟩ := items j x hj
      refine ⟨qj, _, rfl, .of (sR _ _ aj), rfl, _, _, rfl, _, _, rfl, rfl, ?_⟩
      -- told = []
      refine ⟨Nat.zero_le _, fun tl ntl => ?_⟩
      have sT : Same Q3 (upd R0 tl (.lst [])) := sR.trans (same_new ntl)
      have u1 : Same H26 R0 := t3.trans sR
      have u2 : Same R0 (upd R0 tl (.lst [])) := same_new ntl
      have F1 : R0 f1 = some (.tup ((rests ns (k2 - 1000)).map V.int)) := u1 _ _ e25'
      have F2 : R0 f2 = some (.tup ((rests ns (g1 - g4)).map V.int)) := u1 _ _ e26
      have F3 : SqT K R0 p (ns.map V.int) := Sx.Same.tup u1 hT26
      rw [hthird] at F2
      generalize hres : (ns.map fun m => op3 j ((k2 - 1000) % m) (third % m) % m) = res
      have lres : res.length = ns.length := by rw [← hres, List.length_map]
      refine ⟨_, rfl, _, rfl, _, rfl, f1, f2, p, _, _, _, rfl, .of (u2 _ _ F1), .of (u2 _ _ F2), Sx.Same.tup u2 F3, ?_⟩
      refine for_it (walk_zip3T (xs := (rests ns (k2 - 1000)).map V.int) (ys := (rests ns third).map V.int) (zs := ns.map V.int) (n := ns.length) (by unfold rests; rw [List.length_map, List.length_map]) (by unfold rests; rw [List.length_map, List.length_map]) (List.length_map _))
        (fun i σ H' => ∃ w5 w17 w18 : Option V, σ = [some (.ref s0), some (.ref b), y2, y3, y4, w5, some (.int (k2 - 1000)), y7, y8, y9, some (.ref p), some (.int one), some (.ref f1), some (.ref f2), some (.int (op3 j (k2 - 1000) third)), some (.int (j : Nat)), some (.ref tl), w17, w18] ∧ Same R0 H' ∧ H' tl = some (.lst ((res.take i).map V.int)))
        ⟨_, _, _, rfl, u2, upd_same⟩ (fun i σ H' _ ⟨_, _, _, _, s, _⟩ => ⟨.of (s _ _ F1), .of (s _ _ F2), Sx.Same.tup s F3⟩) ?_ ?_
      · rintro i x σ Ra Rb hi ⟨v5, v17, v18, rfl, sA, eA⟩ ⟨T1, x1, x2, x3, rfl, nT, rfl, e1, e2, e3⟩
        have em := getD_some 0 hi
        generalize hmm : ns.getD i 0 = m at em
        obtain ⟨m0, m1⟩ := md2 m (List.mem_of_getElem? em)
        have m2 := (hm.mod m (List.mem_of_getElem? em)).2
        unfold rests at e1 e2
        rw [List.getElem?_map, List.getElem?_map, em] at e1 e2
        rw [List.getElem?_map, em] at e3
        obtain rfl := Option.some.inj e1
        obtain rfl := Option.some.inj e2
        obtain rfl := Option.some.inj e3
        have er : res[i]? = some (op3 j ((k2 - 1000) % m) (third % m) % m) := by
          rw [← hres, List.getElem?_map, em] <;> rfl
        have sB : Same Ra (upd Ra T1 (.tup [.int ((k2 - 1000) % m), .int (third % m), .int m])) := same_new nT
        have b1 : 0 ≤ (k2 - 1000) % m ∧ (k2 - 1000) % m < m := ⟨Int.emod_nonneg _ (by omega), Int.emod_lt_of_pos _ m0⟩
        refine ⟨T1, _, rfl, .of upd_same, rfl, _, _, rfl, _, _, rfl, _, _, rfl, rfl, ?_⟩
        refine ⟨_, rfl, .inl ⟨rfl, _, .of (sB _ _ eA)⟩, ?_⟩
        refine ⟨_, rfl, _, rfl, _, _, rfl, rfl, _, rfl, _, rfl, _, _, rfl, rfl, _, rfl, _, rfl, (k2 - 1000) % m, third % m, rfl, rfl, .inl ⟨by omega, by omega⟩, by show 3 ≤ sizeLine; decide, fun l nl => ?_⟩
        refine ⟨_, rfl, .inl ⟨l, _, _, _, rfl, rfl, .of upd_same, atI_nat (j := j) (op3_at j j3 _ _), _, rfl, _, m, rfl, m0, m1, ?_⟩⟩
        have sC := sB.trans (same_new (o := .lst [.int ((k2 - 1000) % m + third % m), .int ((k2 - 1000) % m - third % m), .int ((k2 - 1000) % m * (third % m))]) nl)
        refine ⟨tl, _, _, rfl, rfl, sC _ _ eA, ?_, _, _, _, rfl, ?_, ?_⟩
        · rw [List.length_map, List.length_take]
          exact Nat.lt_of_le_of_lt (Nat.min_le_left _ _) (Nat.lt_of_lt_of_le (show i < 1000 by omega) (by decide))
        · intro c o h
          rw [upd_ne (ne_of_none h ntl)]
          exact sC _ _ (sA _ _ h)
        · rw [upd_same, List.take_add_one, er, List.map_append] <;> rfl
      · rintro σ Rc ⟨v5, v17, v18, rfl, sC, eC⟩
        rw [← lres, List.take_length, ← hres, ← op3_rests] at eC
        have hTr : SqT K Rc p (ns.map V.int) := Sx.Same.tup sC F3
        refine ⟨_, rfl, _, rfl, p, ns, _, rfl, hTr, hm, fun r5 Rd s5 n5 e5 => ?_⟩
        refine ⟨_, _, rfl, di e5, (rr _).one, ?_⟩
        refine ⟨_, rfl, tl, _, rfl, .inl ⟨.of (s5 _ _ eC), fun u nu => ?_⟩⟩
        refine ⟨_, _, rfl, di upd_same, (rr _).one, rfl, _, rfl, iteNS rfl ?_⟩
        exact ⟨_, _, _, _, _, _, _, _, _, _, _, _, rfl, ((sR.trans sC).trans s5).trans (same_new nu)⟩
    rintro σ R1 ⟨y2, y3, y4, w5, y7, y8, y9, w14, w15, w16, w17, w18, rfl, sR⟩
    have BR := B26.more (t3.trans sR)
    -- the splits
    refine ⟨_, rfl, _, rfl, _, rfl, Hm, b, g, p, ns, one, rfl, BR, hT0, hm, fun R2 BR2 => ⟨_, rfl, iteF ?_⟩⟩
    refine ⟨_, rfl, _, rfl, _, rfl, Hm, b, g, p, ns, k2 - 1000, rfl, BR2, hT0, hm, fun R3 BR3 => ⟨_, rfl, iteF ?_⟩⟩
    exact ⟨_, _, _, _, _, _, _, _, _, _, _, _, _, _, _, _, _, rfl, BR3.less backH⟩
end
theorem all_mk {l : PySem.W.OpenLaw} {w : World} {K : PySem.W.Frag} {h : Heap} {mg : Str → Option Value} {fa f1 f2 f3 f4 f5 f6 f7 f8 f9 f10 f11 f12 : Addr} (X : K.In h) (G : h.Ns mainGlobals mg) (hfa : mg "law" = some (.ref fa))
    {od1 an1 od2 an2 od3 an3 od4 an4 od5 an5 od6 an6 od7 an7 od8 an8 od9 an9 od10 an10 od11 an11 od12 an12 : Option Addr} {sl1 sl2 sl3 sl4 sl5 sl6 sl7 sl8 sl9 sl10 sl11 sl12 : Array (Option Value)} {oc1 kV1 dc1 pm1 cd1 ct1 oc2 kV2 dc2 pm2 cd2 ct2 oc3 kV3 dc3 pm3 cd3 ct3 oc4 kV4 dc4 pm4 cd4 ct4 oc5 kV5 dc5 pm5 cd5 ct5 oc6 kV6 dc6 pm6 cd6 ct6 oc7 kV7 dc7 pm7 cd7 ct7 oc8 kV8 dc8 pm8 cd8 ct8 oc9 kV9 dc9 pm9 cd9 ct9 oc10 kV10 dc10 pm10 cd10 ct10 oc11 kV11 dc11 pm11 cd11 ct11 oc12 kV12 dc12 pm12 cd12 ct12 : Value}
    (a1 : PySem.W.nsIn K mainGlobals "rests_of" = some (some (.ref f1))) (l1 : K.lookup f1 = some ⟨oc1, od1, .func (PySem.W.fnOf "rests_of" "rests_of" (defArgs s_rests_of) (defBody s_rests_of) (defScope s_rests_of) .none kV1 dc1 pm1 an1 cd1 ct1), sl1⟩) (c1 : PySem.W.codeIn K cd1 "rests_of" = true) (k1 : PySem.W.keepIn K (.ref f1) = true)
    (a2 : PySem.W.nsIn K mainGlobals "agreeing" = some (some (.ref f2))) (l2 : K.lookup f2 = some ⟨oc2, od2, .func (PySem.W.fnOf "agreeing" "agreeing" (defArgs s_agreeing) (defBody s_agreeing) (defScope s_agreeing) .none kV2 dc2 pm2 an2 cd2 ct2), sl2⟩) (c2 : PySem.W.codeIn K cd2 "agreeing" = true) (k2 : PySem.W.keepIn K (.ref f2) = true)
    (a3 : PySem.W.nsIn K mainGlobals "straying" = some (some (.ref f3))) (l3 : K.lookup f3 = some ⟨oc3, od3, .func (PySem.W.fnOf "straying" "straying" (defArgs s_straying) (defBody s_straying) (defScope s_straying) .none kV3 dc3 pm3 an3 cd3 ct3), sl3⟩) (c3 : PySem.W.codeIn K cd3 "straying" = true) (k3 : PySem.W.keepIn K (.ref f3) = true)
    (a4 : PySem.W.nsIn K mainGlobals "_law_box" = some (some (.ref f4))) (l4 : K.lookup f4 = some ⟨oc4, od4, .func (PySem.W.fnOf "_law_box" "_law_box" (defArgs s__law_box) (defBody s__law_box) (defScope s__law_box) .none kV4 dc4 pm4 an4 cd4 ct4), sl4⟩) (c4 : PySem.W.codeIn K cd4 "_law_box" = true) (k4 : PySem.W.keepIn K (.ref f4) = true)
    (a5 : PySem.W.nsIn K mainGlobals "_law_draw" = some (some (.ref f5))) (l5 : K.lookup f5 = some ⟨oc5, od5, .func (PySem.W.fnOf "_law_draw" "_law_draw" (defArgs s__law_draw) (defBody s__law_draw) (defScope s__law_draw) .none kV5 dc5 pm5 an5 cd5 ct5), sl5⟩) (c5 : PySem.W.codeIn K cd5 "_law_draw" = true) (k5 : PySem.W.keepIn K (.ref f5) = true)
    (a6 : PySem.W.nsIn K mainGlobals "_law_pick" = some (some (.ref f6))) (l6 : K.lookup f6 = some ⟨oc6, od6, .func (PySem.W.fnOf "_law_pick" "_law_pick" (defArgs s__law_pick) (defBody s__law_pick) (defScope s__law_pick) .none kV6 dc6 pm6 an6 cd6 ct6), sl6⟩) (c6 : PySem.W.codeIn K cd6 "_law_pick" = true) (k6 : PySem.W.keepIn K (.ref f6) = true)
    (a7 : PySem.W.nsIn K mainGlobals "_law_great" = some (some (.ref f7))) (l7 : K.lookup f7 = some ⟨oc7, od7, .func (PySem.W.fnOf "_law_great" "_law_great" (defArgs s__law_great) (defBody s__law_great) (defScope s__law_great) .none kV7 dc7 pm7 an7 cd7 ct7), sl7⟩) (c7 : PySem.W.codeIn K cd7 "_law_great" = true) (k7 : PySem.W.keepIn K (.ref f7) = true)
    (a8 : PySem.W.nsIn K mainGlobals "_law_number" = some (some (.ref f8))) (l8 : K.lookup f8 = some ⟨oc8, od8, .func (PySem.W.fnOf "_law_number" "_law_number" (defArgs s__law_number) (defBody s__law_number) (defScope s__law_number) .none kV8 dc8 pm8 an8 cd8 ct8), sl8⟩) (c8 : PySem.W.codeIn K cd8 "_law_number" = true) (k8 : PySem.W.keepIn K (.ref f8) = true)
    (a9 : PySem.W.nsIn K mainGlobals "_law_machine" = some (some (.ref f9))) (l9 : K.lookup f9 = some ⟨oc9, od9, .func (PySem.W.fnOf "_law_machine" "_law_machine" (defArgs s__law_machine) (defBody s__law_machine) (defScope s__law_machine) .none kV9 dc9 pm9 an9 cd9 ct9), sl9⟩) (c9 : PySem.W.codeIn K cd9 "_law_machine" = true) (k9 : PySem.W.keepIn K (.ref f9) = true)
    (a10 : PySem.W.nsIn K mainGlobals "_law_rest" = some (some (.ref f10))) (l10 : K.lookup f10 = some ⟨oc10, od10, .func (PySem.W.fnOf "_law_rest" "_law_rest" (defArgs s__law_rest) (defBody s__law_rest) (defScope s__law_rest) .none kV10 dc10 pm10 an10 cd10 ct10), sl10⟩) (c10 : PySem.W.codeIn K cd10 "_law_rest" = true) (k10 : PySem.W.keepIn K (.ref f10) = true)
    (a11 : PySem.W.nsIn K mainGlobals "_law_is_split" = some (some (.ref f11))) (l11 : K.lookup f11 = some ⟨oc11, od11, .func (PySem.W.fnOf "_law_is_split" "_law_is_split" (defArgs s__law_is_split) (defBody s__law_is_split) (defScope s__law_is_split) .none kV11 dc11 pm11 an11 cd11 ct11), sl11⟩) (c11 : PySem.W.codeIn K cd11 "_law_is_split" = true) (k11 : PySem.W.keepIn K (.ref f11) = true)
    (a12 : PySem.W.nsIn K mainGlobals "law" = some (some (.ref f12))) (l12 : K.lookup f12 = some ⟨oc12, od12, .func (PySem.W.fnOf "law" "law" (defArgs s_law) (defBody s_law) (defScope s_law) .none kV12 dc12 pm12 an12 cd12 ct12), sl12⟩) (c12 : PySem.W.codeIn K cd12 "law" = true) (k12 : PySem.W.keepIn K (.ref f12) = true)
    (z_abs : PySem.W.nsIn K mainGlobals "abs" = some none)
    (z_enumerate : PySem.W.nsIn K mainGlobals "enumerate" = some none)
    (z_int : PySem.W.nsIn K mainGlobals "int" = some none)
    (z_len : PySem.W.nsIn K mainGlobals "len" = some none)
    (z_range : PySem.W.nsIn K mainGlobals "range" = some none)
    (z_repr : PySem.W.nsIn K mainGlobals "repr" = some none)
    (z_tuple : PySem.W.nsIn K mainGlobals "tuple" = some none)
    (z_zip : PySem.W.nsIn K mainGlobals "zip" = some none)
    : ∃ fd : FuncData, (∀ (s : Shared) (v : Value), BindsTo s fd ⟨[v], []⟩ [("script", v)]) ∧ ∀ base : Heap, K.In base → base.Ns mainGlobals mg → FnG l.prog w K mg base CX0 4 fa fd ["script"] (sp_law K) := by
  have e := hfa.symm.trans (PySem.W.mg_of X G a12)
  cases e
  have F1 := fun_mk (st := s_rests_of) l1 c1 k1
  have b1 := F1.binds (ps := ["machine", "number"]) fun _ _ _ _ _ _ us hl => match us, hl with | [_, _], _ => rfl
  have F2 := fun_mk (st := s_agreeing) l2 c2 k2
  have b2 := F2.binds (ps := ["machine", "word", "number"]) fun _ _ _ _ _ _ us hl => match us, hl with | [_, _, _], _ => rfl
  have F3 := fun_mk (st := s_straying) l3 c3 k3
  have b3 := F3.binds (ps := ["machine", "word", "number"]) fun _ _ _ _ _ _ us hl => match us, hl with | [_, _, _], _ => rfl
  have F4 := fun_mk (st := s__law_box) l4 c4 k4
  have b4 := F4.binds (ps := ["script"]) fun _ _ _ _ _ _ us hl => match us, hl with | [_], _ => rfl
  have F5 := fun_mk (st := s__law_draw) l5 c5 k5
  have b5 := F5.binds (ps := ["box", "many"]) fun _ _ _ _ _ _ us hl => match us, hl with | [_, _], _ => rfl
  have F6 := fun_mk (st := s__law_pick) l6 c6 k6
  have b6 := F6.binds (ps := ["box", "items"]) fun _ _ _ _ _ _ us hl => match us, hl with | [_, _], _ => rfl
  have F7 := fun_mk (st := s__law_great) l7 c7 k7
  have b7 := F7.binds (ps := ["box", "many"]) fun _ _ _ _ _ _ us hl => match us, hl with | [_, _], _ => rfl
  have F8 := fun_mk (st := s__law_number) l8 c8 k8
  have b8 := F8.binds (ps := ["box"]) fun _ _ _ _ _ _ us hl => match us, hl with | [_], _ => rfl
  have F9 := fun_mk (st := s__law_machine) l9 c9 k9
  have b9 := F9.binds (ps := ["box"]) fun _ _ _ _ _ _ us hl => match us, hl with | [_], _ => rfl
  have F10 := fun_mk (st := s__law_rest) l10 c10 k10
  have b10 := F10.binds (ps := ["number", "modulus"]) fun _ _ _ _ _ _ us hl => match us, hl with | [_, _], _ => rfl
  have F11 := fun_mk (st := s__law_is_split) l11 c11 k11
  have b11 := F11.binds (ps := ["box", "machine", "number"]) fun _ _ _ _ _ _ us hl => match us, hl with | [_, _, _], _ => rfl
  have F12 := fun_mk (st := s_law) l12 c12 k12
  have b12 := F12.binds (ps := ["script"]) fun _ _ _ _ _ _ us hl => match us, hl with | [_], _ => rfl
  have T : Txt K mg ⟨f1, _, f2, _, f3, _, f4, _, f5, _, f6, _, f7, _, f8, _, f9, _, f10, _, f11, _, fa, _⟩ := ⟨⟨F1, b1, PySem.W.mg_of X G a1⟩, ⟨F2, b2, PySem.W.mg_of X G a2⟩, ⟨F3, b3, PySem.W.mg_of X G a3⟩, ⟨F4, b4, PySem.W.mg_of X G a4⟩, ⟨F5, b5, PySem.W.mg_of X G a5⟩, ⟨F6, b6, PySem.W.mg_of X G a6⟩, ⟨F7, b7, PySem.W.mg_of X G a7⟩, ⟨F8, b8, PySem.W.mg_of X G a8⟩, ⟨F9, b9, PySem.W.mg_of X G a9⟩, ⟨F10, b10, PySem.W.mg_of X G a10⟩, ⟨F11, b11, PySem.W.mg_of X G a11⟩, ⟨F12, b12, PySem.W.mg_of X G a12⟩, PySem.W.mg_none_of X G z_abs, PySem.W.mg_none_of X G z_enumerate, PySem.W.mg_none_of X G z_int, PySem.W.mg_none_of X G z_len, PySem.W.mg_none_of X G z_range, PySem.W.mg_none_of X G z_repr, PySem.W.mg_none_of X G z_tuple, PySem.W.mg_none_of X G z_zip⟩
  exact ⟨_, fun s v => .of_eq rfl, fun base _ _ => ok_law T⟩
end K2
open PySem PySem.W PyProof.Rows
set_option maxHeartbeats 0 in
theorem PySem.Challenge.cw_straylanes_k02_whole_rests_of_numbers_holds : PySem.Challenge.rw_straylanes_k02_whole_rests_of_numbers.Holds := by
  w_on; o_law; k_head; (case hw => w_witness2)
  k_fill
  refine Sx.walkG (l := PySem.Challenge.rw_straylanes_k02_whole_rests_of_numbers) (n := 63) (k := 4) (x := "script") (sp := Sx.sp_law) rfl (by decide) rfl ⟨rfl, by decide, by decide⟩ (fun w h Y => PySem.W.kIn_of Y) ?F (fun _ _ a ns hl _ hS => ⟨a, ns, rfl, hS, hl, fun _ => rfl⟩)
  case F =>
    intro w mg fa h KX G hmg
    refine' K2.all_mk KX G hmg ?a1 ?l1 ?c1 ?k1 ?a2 ?l2 ?c2 ?k2 ?a3 ?l3 ?c3 ?k3 ?a4 ?l4 ?c4 ?k4 ?a5 ?l5 ?c5 ?k5 ?a6 ?l6 ?c6 ?k6 ?a7 ?l7 ?c7 ?k7 ?a8 ?l8 ?c8 ?k8 ?a9 ?l9 ?c9 ?k9 ?a10 ?l10 ?c10 ?k10 ?a11 ?l11 ?c11 ?k11 ?a12 ?l12 ?c12 ?k12 ?z_abs ?z_enumerate ?z_int ?z_len ?z_range ?z_repr ?z_tuple ?z_zip
    (case a1 => k_is)
    (case l1 => k_is)
    (case c1 => k_is)
    (case k1 => k_is)
    (case a2 => k_is)
    (case l2 => k_is)
    (case c2 => k_is)
    (case k2 => k_is)
    (case a3 => k_is)
    (case l3 => k_is)
    (case c3 => k_is)
    (case k3 => k_is)
    (case a4 => k_is)
    (case l4 => k_is)
    (case c4 => k_is)
    (case k4 => k_is)
    (case a5 => k_is)
    (case l5 => k_is)
    (case c5 => k_is)
    (case k5 => k_is)
    (case a6 => k_is)
    (case l6 => k_is)
    (case c6 => k_is)
    (case k6 => k_is)
    (case a7 => k_is)
    (case l7 => k_is)
    (case c7 => k_is)
    (case k7 => k_is)
    (case a8 => k_is)
    (case l8 => k_is)
    (case c8 => k_is)
    (case k8 => k_is)
    (case a9 => k_is)
    (case l9 => k_is)
    (case c9 => k_is)
    (case k9 => k_is)
    (case a10 => k_is)
    (case l10 => k_is)
    (case c10 => k_is)
    (case k10 => k_is)
    (case a11 => k_is)
    (case l11 => k_is)
    (case c11 => k_is)
    (case k11 => k_is)
    (case a12 => k_is)
    (case l12 => k_is)
    (case c12 => k_is)
    (case k12 => k_is)
    (case z_abs => k_is)
    (case z_enumerate => k_is)
    (case z_int => k_is)
    (case z_len => k_is)
    (case z_range => k_is)
    (case z_repr => k_is)
    (case z_tuple => k_is)
    (case z_zip => k_is)
