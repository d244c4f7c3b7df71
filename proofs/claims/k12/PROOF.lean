import PyProof.Rows.All
import Wide.All
import OpenK.AllK
import Wide.FinOn
import PyProof.ReprRoads
import HandS.ForMost
import HandS.Wide
import PyProof.StrLawsRepr
import PyProof.ReprLen
import HandS.TupAny
import HandS.Gcd
import HandS.More
import HandS.IsInst
import HandS.Style
import HandS.Defaults
import HandS.Codes
import HandS.TryOnly
import HandS.Iter
import HandS.Walk
import PySem.Challenge.RW_pointsum_k12_whole_reduced_and_pairs
set_option Elab.async false
set_option linter.all false
set_option maxRecDepth 100000
/-! Promises that know that no repr is under way around the call; repr of plain data. -/
namespace Gd
open PySem PySem.Spec PyProof.Rows L2
/-- as the layer's FnOk, for calls around which nothing is being shown -/
structure FnG (P : Program) (w : World) (K : PySem.W.Frag) (mg : Str → Option Value) (base : Heap) (k : Nat) (f : Addr) (fd : FuncData) (ps : List Str) (sp : Sp) : Prop where
  many : ∀ vs H Q E, sp vs H Q E → vs.length = ps.length
  goes : ∀ (A : Around) (outer : List Env) (s : Shared) (H : Hp) (args : Args) (us : List Value) (vs : List V) (Q : VK) (E : XK), A.guards = some [] → Room k A → Env0 P w K mg base A outer s H →
    BindsTo s fd args (ps.zip us) → Vals vs us → sp vs H Q E → codeAny (model P w) A (.call (.ref f) args) (CR CX0 outer P w H s Q E) s
section
variable {P : Program} {w : World} {K : PySem.W.Frag} {mg : Str → Option Value} {base : Heap}
theorem FnG.of {k : Nat} {f : Addr} {fd : FuncData} {ps : List Str} {sp : Sp} (F : FnOk P w K mg base CX0 k f fd ps sp) : FnG P w K mg base k f fd ps sp :=
  ⟨F.len, fun A outer s H args us vs Q E _ => F.run A outer s H args us vs Q E⟩
theorem FnG.up {j k : Nat} {f : Addr} {fd : FuncData} {ps : List Str} {sp : Sp} (F : FnG P w K mg base j f fd ps sp) (h : j ≤ k) : FnG P w K mg base k f fd ps sp :=
  ⟨F.many, fun A outer s H args us vs Q E hg hr => F.goes A outer s H args us vs Q E hg (hr.mono h)⟩
/-- a def by its body -/
theorem FnG.by_body {x qual : Str} {st : Stmt} {f : Addr} {fd : FuncData} {N ps : List Str} {k : Nat} {sp : Sp} (F : Fun K x qual st f fd) (S : FnScope N ps (defScope st)) (len : ∀ vs H Q E, sp vs H Q E → vs.length = ps.length)
    (hb : ∀ (cdv : Value) (A : Around) (outer : List Env) (s : Shared) (H : Hp) (vs : List V) (Q : VK) (E : XK), A.guards = some [] → Room k (A.deeper (envOfC qual (defScope st) s.heap.objs.size f cdv)) → sp vs H Q E →
      ∃ t, PSs (cxOf CX0 P w K mg base N qual (defScope st) f cdv A outer s H E).nox (defBody st) t ∧ t { nx := fun _ H' => Q .non H', rt := Q } (start N vs) H) : FnG P w K mg base (k + 1) f fd ps sp := by
  obtain ⟨oc, od, kV, doc, pm, an, cdv, ct, osl, rfl, lk, hcd⟩ := F.ex
  constructor
  · exact len
  · intro A outer s H args us vs Q E hg hr e0 hbi rv hsp
    have hlen := len _ _ _ _ hsp
    have lim : s.heap.NoLimit := e0.mod.nolimit.keeps fun b o e => (e0.bs b o e).1
    have inK : K.In s.heap := e0.mod.kin.keeps fun b o e => (e0.bs b o e).1
    have kinds : ∀ y ∈ ps.zip us, (defScope st).names.lookup y.1 = some .local ∨ ((defScope st).names.lookup y.1 = some .cell ∧ ((cellsFrom (s.heap.objs.size + 1) (defScope st).names []).lookup y.1).isSome = true) := by
      rintro ⟨n, v⟩ hy
      have hp := S.par n (List.of_mem_zip hy).1
      cases hp with
      | inl q => exact Or.inl q
      | inr q => exact Or.inr ⟨q, PySem.W.cellsFrom_some _ _ _ (Or.inl q)⟩
    refine codeAny_call_function hr.depth (inK _ _ lk) rfl S.co S.gen rfl (PySem.W.codeRec_of inK hcd) (hbi _ _ _ _ ?_)
    refine wpAny_newFunctionEnv_cells S.kind kinds fun env he s1 x1 => ?_
    subst he
    refine ⟨lim.keeps x1.toInCall.keep, codeAny_func ?_⟩
    obtain ⟨t, ht, hq⟩ := hb cdv A outer s H vs Q E hg (hr.deeper _) hsp
    have I0 : Inv (cxOf CX0 P w K mg base N qual (defScope st) f cdv A outer s H E) [] (start N vs) H s1 := inv_start S hr.hd e0 hlen rv x1
    refine wpAny_mono (ht.nox.run [] s1 (start N vs) H _ I0 hq) (fun fl s' hs => ?_) fun e s' hs => hs
    match fl, hs with
    | .ret u, ⟨v, σ', H', J, r1, q1⟩ => exact ⟨v, H', J.os, J.bare, J.base, J.hok, r1, q1⟩
    | .next, ⟨σ', H', J, q1⟩ => exact ⟨V.non, H', J.os, J.bare, J.base, J.hok, rfl, q1⟩
    | .brk, ⟨_, _, _, q1⟩ => exact q1.elim
    | .cont, ⟨_, _, _, q1⟩ => exact q1.elim
end
/-- f(e, ..) where every parameter is given -/
def tKal (sp : Sp) (t : TA) : TE := fun σ H Q => t σ H fun vs H1 => sp vs H1 Q E0
/-- a def that may be called by its name -/
structure Kl (P : Program) (w : World) (K : PySem.W.Frag) (mg : Str → Option Value) (base : Heap) (k : Nat) (x : Str) (sp : Sp) : Prop where
  ex : ∃ (f : Addr) (fd : FuncData) (ps : List Str), FnOk P w K mg base CX0 k f fd ps sp ∧ mg x = some (.ref f) ∧ PySem.W.keepIn K (.ref f) = true ∧ Binds K fd ps []
structure Kg (P : Program) (w : World) (K : PySem.W.Frag) (mg : Str → Option Value) (base : Heap) (k : Nat) (x : Str) (sp : Sp) : Prop where
  ex : ∃ (f : Addr) (fd : FuncData) (ps : List Str), FnG P w K mg base k f fd ps sp ∧ mg x = some (.ref f) ∧ PySem.W.keepIn K (.ref f) = true ∧ Binds K fd ps []
section
variable {X : Cx} {j k : Nat} {f : Addr} {fd : FuncData} {ps : List Str} {sp : Sp} {x : Str} {p pos : Pos} {e : Expr} {es : List Expr} {t : TA}
theorem run_g {pins : List (Addr × Obj)} {σ : L2.St} {H : Hp} {s : Shared} {Q : VK} {us : List Value} {vs : List V} (F : FnG X.prog X.w X.K X.mg X.base k f fd ps sp) (hg : X.A.guards = some []) (hr : Room k X.A) (hb : Binds X.K fd ps [])
    (I : Inv X pins σ H s) (r : Vals vs us) (h : sp vs H Q E0) : wpAny (model X.prog X.w) X.A (call (.ref f) us) (EP X pins σ Q) X.xe s := by
  have hl : us.length = ps.length := r.length.symm.trans (F.many _ _ _ _ h)
  have hbb := hb s us I.kIn (by rw [List.append_nil]; exact hl)
  rw [List.append_nil] at hbb
  refine wpAny_call (codeAny_mono (F.goes X.A X.stack s H ⟨us, []⟩ us vs Q E0 hg hr I.env0 hbb r h) fun res s' hq => ?_)
  match res, hq with
  | .ok (.ret u), hq => exact I.after hq
  | .error e, hq => exact (show False from hq).elim
theorem pe_g (c : Kg X.prog X.w X.K X.mg X.base k x sp) (hgd : X.A.guards = some []) (hr : Room j X.A) (hk : k ≤ j) (hg : Gl X x) (ha : PA X (e :: es) t)
    (hdb : (x == ("__debug__" : Str)) = false := by decide) (he : starEach (e :: es) X.env = (false, eval e X.env) :: starEach es X.env := by rfl) (hpl : (backTo pos (starEach es X.env)).any (·.1) = false := by rfl) :
    PE X (.Call (.Name x p) (e :: es) [] pos) (tKal sp t) := by
  obtain ⟨f, fd, ps, F, hm, kp, b⟩ := c.ex
  constructor
  intro pins s σ H Q I h
  refine wpAny_Call_Name_kw (ld_glob I hg hm ?_ hdb)
  refine PySem.W.callWith_K (h₀ := X.base) I.ok.mod.kin kp (thn (ha.run pos pins s σ H _ I h) fun us s1 ⟨vs, H1, I1, r, q⟩ => ⟨I1.kIn, ?_⟩) he hpl
  exact run_g F hgd (hr.mono hk) b I1 r q
theorem pe_k (c : Kl X.prog X.w X.K X.mg X.base k x sp) (hr : Room j X.A) (hk : k ≤ j) (hg : Gl X x) (ha : PA X (e :: es) t)
    (hdb : (x == ("__debug__" : Str)) = false := by decide) (he : starEach (e :: es) X.env = (false, eval e X.env) :: starEach es X.env := by rfl) (hpl : (backTo pos (starEach es X.env)).any (·.1) = false := by rfl) :
    PE X (.Call (.Name x p) (e :: es) [] pos) (tKal sp t) := by
  obtain ⟨f, fd, ps, F, hm, kp, b⟩ := c.ex
  have h := pe_call (sp := sp) (E := E0) (dvs := []) F (hr.mono hk) hg hm kp b .nil pass0 ha hdb he hpl (pos := pos) (p := p)
  constructor
  intro pins s σ H Q I q
  refine h.run pins s σ H Q I ?_
  have e2 : tCall sp [] E0 t = tKal sp t := by
    funext σ H Q
    show t σ H (fun vs H1 => sp (vs ++ []) H1 Q E0) = t σ H (fun vs H1 => sp vs H1 Q E0)
    congr 1
    funext vs H1
    rw [List.append_nil]
  rw [e2]
  exact q
end
/-! ### repr of plain data -/
mutual
/-- at most so many signs -/
def wt : PyData → Nat
  | .none | .bool _ => 5
  | .int _ => 1921
  | .str x => 10 * x.length + 2
  | .list xs | .tuple xs => wtAll xs + 3
  | .dict _ => 0
def wtAll : List PyData → Nat
  | [] => 0
  | x :: xs => wt x + 2 + wtAll xs
end
mutual
/-- data that can be shown: its ints below 1920 bits -/
def okD : PyData → Bool
  | .none | .bool _ => true
  | .int i => decide (i.natAbs.log2 < 1920)
  | .str x => x.cps.toList.all fun c => decide (c < 16 ^ 8)
  | .list xs | .tuple xs => okAll xs
  | .dict _ => false
def okAll : List PyData → Bool
  | [] => true
  | x :: xs => okD x && okAll xs
end
theorem one_br : (("[" : Str)).length = 1 := rfl
theorem one_br2 : (("]" : Str)).length = 1 := rfl
theorem one_pa : (("(" : Str)).length = 1 := rfl
theorem tup_wt (ts : List Str) : (tupleText ts).length ≤ piled ts + 3 := by
  have e3 : (((if ts.length == 1 then ",)" else ")" : String) : Str)).length ≤ 2 := by split <;> decide +kernel
  unfold tupleText
  rw [strLen_append, strLen_append, one_pa]
  cases ts with
  | nil =>
    have : (Str.join ", " []).length = 0 := by decide +kernel
    omega
  | cons x r =>
    have := join_length_add (x :: r) (List.cons_ne_nil _ _)
    omega
theorem sum_piled : ∀ ts : List Str, (ts.map (·.length)).sum + 2 * ts.length = piled ts
  | [] => rfl
  | t :: ts => by
    have ih := sum_piled ts
    rw [piled_cons, ← ih, List.map_cons, List.sum_cons, List.length_cons]
    omega
theorem lst_wt (ts : List Str) : (listText ts).length ≤ piled ts + 3 := by
  have h := textFrom_len_le ts 0 "["
  have h2 := sum_piled ts
  unfold listText
  rw [strLen_append, one_br2]
  rw [one_br] at h
  omega
mutual
theorem shown_wt : ∀ d : PyData, okD d = true → d.shown.length ≤ wt d ∧ d.showable = true ∧ d.hasDict = false
  | .none, _ => by
    refine ⟨?_, rfl, rfl⟩
    show (("None" : Str)).length ≤ 5
    decide +kernel
  | .bool b, _ => by
    refine ⟨?_, rfl, rfl⟩
    cases b <;> (show _ ≤ 5; decide +kernel)
  | .int i, h => by
    have h1 : i.natAbs.log2 < 1920 := of_decide_eq_true (by simpa only [okD] using h)
    refine ⟨?_, by simpa only [PyData.showable] using decide_eq_true h1, rfl⟩
    have e := int_text_length_le (k := 1920) (by decide) h1
    show (Str.ofString (toString i)).length ≤ 1921
    rw [PySem.ofString_length]
    exact e
  | .str x, h => by
    refine ⟨?_, rfl, rfl⟩
    have h1 : ∀ c ∈ x.cps.toList, c < 16 ^ 8 := fun c hc => of_decide_eq_true (List.all_eq_true.mp (by simpa only [okD] using h) c hc)
    exact StrLaws.reprText_len x h1
  | .list xs, h => by
    obtain ⟨h1, h2, h3⟩ := shown_wtAll xs (by simpa only [okD] using h)
    refine ⟨?_, by simpa only [PyData.showable] using h2, by simpa only [PyData.hasDict] using h3⟩
    simp only [PyData.shown, wt]
    exact Nat.le_trans (lst_wt _) (Nat.add_le_add_right h1 3)
  | .tuple xs, h => by
    obtain ⟨h1, h2, h3⟩ := shown_wtAll xs (by simpa only [okD] using h)
    refine ⟨?_, by simpa only [PyData.showable] using h2, by simpa only [PyData.hasDict] using h3⟩
    simp only [PyData.shown, wt]
    exact Nat.le_trans (tup_wt _) (Nat.add_le_add_right h1 3)
  | .dict _, h => by simp only [okD, Bool.false_eq_true] at h
theorem shown_wtAll : ∀ xs : List PyData, okAll xs = true → piled (PyData.shownAll xs) ≤ wtAll xs ∧ PyData.showableAll xs = true ∧ PyData.hasDictAll xs = false
  | [], _ => ⟨Nat.le_refl _, rfl, rfl⟩
  | x :: xs, h => by
    have h0 : (okD x && okAll xs) = true := by simpa only [okAll] using h
    rw [Bool.and_eq_true] at h0
    obtain ⟨a1, a2, a3⟩ := shown_wt x h0.1
    obtain ⟨b1, b2, b3⟩ := shown_wtAll xs h0.2
    refine ⟨?_, by simp only [PyData.showableAll, a2, b2, Bool.and_self], by simp only [PyData.hasDictAll, a3, b3, Bool.or_self]⟩
    simp only [PyData.shownAll, wtAll]
    rw [piled_cons]
    omega
end
/-- the text of data -/
def rRepr (K : PySem.W.Frag) : List V → Hp → VK → Prop := fun xs H Q => ∃ x d, xs = [x] ∧ Dp K H x d ∧ okD d = true ∧ d.depth ≤ 40 ∧ wt d ≤ 1000000 ∧ Q (.str d.shown) H
section
variable {X : Cx}
theorem call_reprD (hg : X.A.guards = some []) (hu : X.A.units + 64 < cLine) : CallR X (.builtin "repr") (rRepr X.K) := by
  intro pins s σ H xs us Q I r h
  obtain ⟨x, d, rfl, hd, h0, h3, hw, q⟩ := h
  obtain ⟨hz, h1, h2⟩ := shown_wt d h0
  have h4 : d.shown.length ≤ sizeLine := Nat.le_trans hz (Nat.le_trans hw (by decide))
  obtain ⟨u, rfl, hx⟩ := vals1 r
  obtain ⟨as, rd⟩ := Dp.reads I d x u hd hx
  cases hd with
  | non =>
    obtain rfl : u = Value.none := hx
    exact PySem.P.repr_of_none ⟨.str _, H, I.tok _, ⟨_, rfl⟩, q⟩
  | bl b =>
    obtain rfl : u = Value.bool b := hx
    exact PySem.P.repr_of_bool ⟨.str _, H, I.tok _, ⟨_, rfl⟩, q⟩
  | int i =>
    obtain ⟨t, rfl⟩ := hx
    exact PySem.P.repr_of_int (of_decide_eq_true h1) ⟨.str _, H, I.tok _, ⟨_, rfl⟩, q⟩
  | str z =>
    obtain ⟨t, rfl⟩ := hx
    exact PySem.P.repr_of_str ⟨.str _, H, I.tok _, ⟨_, rfl⟩, q⟩ h4
  | lst hs ha =>
    obtain rfl : u = Value.ref _ := hx
    refine repr_of_reads' rd h1 (PyData.noDict_hsm h2) hg (by omega) (fun _ _ z => z) (fun h' u tk hk => ?_) h4
    exact ⟨.str _, H, I.kept (t' := tk) hk, ⟨_, rfl⟩, q⟩
  | tup hs ha =>
    obtain rfl : u = Value.ref _ := hx
    refine repr_of_reads' rd h1 (PyData.noDict_hsm h2) hg (by omega) (fun _ _ z => z) (fun h' u tk hk => ?_) h4
    exact ⟨.str _, H, I.kept (t' := tk) hk, ⟨_, rfl⟩, q⟩
end
/-! ### the law's end -/
section
variable {P : Program} {w : World} {K : PySem.W.Frag} {mg mb : Str → Option Value} {k : Nat} {fa a : Addr} {fd : FuncData} {x : Str} {sp : Sp} {s1 : Shared} {vs : List Value} {ns : List Int}
/-- from a heap H in which at most the script is tracked -/
theorem law_from {H : Hp} (KX : K.In s1.heap) (hns : s1.heap.Ns mainGlobals mg) (hb : s1.heap.Ns builtinsNs mb) (hbb : ∀ x : Str, x ≠ "__name__" → mb x = bootBuiltins x) (hlim : s1.heap.NoLimit) (hg : s1.gens = #[])
    (ha : s1.heap.get? a = some { cls := .type "list", data := .seq vs.toArray }) (hr : Room k callerA) (F : ∀ base : Heap, K.In base → base.Ns mainGlobals mg → FnG P w K mg base k fa fd [x] sp)
    (hbind : ∀ (s : Shared) (u : Value), BindsTo s fd ⟨[u], []⟩ [(x, u)]) (hO : Only H) (hok : HOk P w H s1.heap) (hA : ∀ b, H b ≠ none → b = a) (hK : H a ≠ none → K.lookup a = none)
    (hsp : sp [.ref a] H (fun v _ => v = .bl true) fun _ _ _ => False) :
    codeAny (model P w) callerA (.call (.ref fa) ⟨[.ref a], []⟩) (fun r s' => r = .ok (.ret (.bool true)) ∧ OldK s1.heap s'.heap ∧ s'.os = s1.os ∧ AllBare s'.gens) s1 := by
  have untr : ∀ {b : Addr} {o : Obj} {es : Array DictEntry} {ep : Nat}, s1.heap.get? b = some o → o.data = .dict es ep → H b = none := by
    intro b o es ep e d
    cases q : H b with
    | none => rfl
    | some u =>
      obtain rfl : b = a := hA b (by rw [q]; exact Option.some_ne_none u)
      rw [ha] at e
      cases e
      exact absurd (show Data.seq vs.toArray _ = Data.dict es ep from d) (by intro z; cases z)
  have nsH : ∀ {b : Addr} {m : Str → Option Value}, s1.heap.Ns b m → (hidT s1.heap H).Ns b m := by
    rintro b m ⟨o, es, ep, e, d, r⟩
    exact ⟨o, es, ep, hidT_get e (untr e d), d, r⟩
  have inH : K.In (hidT s1.heap H) := by
    intro b o e
    refine hidT_get (KX b o e) ?_
    cases q : H b with
    | none => rfl
    | some u =>
      have hne : H b ≠ none := by rw [q]; exact Option.some_ne_none u
      obtain rfl : b = a := hA b hne
      rw [hK hne] at e
      cases e
  obtain ⟨mc, l1, l2⟩ := hlim
  have md : Mod K mg (hidT s1.heap H) := ⟨inH, nsH hns, ⟨mb, nsH hb, hbb⟩, ⟨mc, nsH l1, l2⟩⟩
  have e0 : Env0 P w K mg (hidT s1.heap H) callerA [] s1 H := by
    refine ⟨rfl, md, fun b o e => of_hidT e, Nat.le_of_eq (hidT_size _ _), trivial, ?_, hok, .of_eq hg⟩
    intro b hb
    cases (show b ∈ ([] : List Addr) from hb)
  have run := (F _ inH (nsH hns)).goes callerA [] s1 H ⟨[.ref a], []⟩ [.ref a] [.ref a] _ _ rfl hr e0 (hbind s1 (.ref a)) (.cons rfl .nil) hsp
  refine codeAny_mono run fun r s' h => ?_
  match r, h with
  | .error e, h => exact (show False from h).elim
  | .ok (.ret u), ⟨v, H', os, bare, un, hok', r', q⟩ =>
    obtain rfl : v = .bl true := q
    obtain rfl : u = Value.bool true := r'
    refine ⟨rfl, OldK.of_keep ?_, os, bare⟩
    intro b o e
    cases q : H b with
    | none => exact un.keep b o e q (fun z => by cases (show b ∈ ([] : List Addr) from z)) (fun z => by cases z)
    | some u =>
      rcases hO b with z | ⟨ob, xs, z⟩
      · rw [q] at z
        cases z
      · have k1 := (hok b _ z).1
        have k2 := (hok' b _ (un.frzs b ob _ z)).1
        rw [e] at k1
        cases k1
        exact k2
theorem law_g (KX : K.In s1.heap) (hns : s1.heap.Ns mainGlobals mg) (hb : s1.heap.Ns builtinsNs mb) (hbb : ∀ x : Str, x ≠ "__name__" → mb x = bootBuiltins x) (hlim : s1.heap.NoLimit) (hg : s1.gens = #[])
    (ha : s1.heap.get? a = some { cls := .type "list", data := .seq vs.toArray }) (hi : IntsAre vs ns) (hl : ns.length ≤ sizeLine) (hr : Room k callerA) (F : ∀ base : Heap, K.In base → base.Ns mainGlobals mg → FnG P w K mg base k fa fd [x] sp)
    (hbind : ∀ (s : Shared) (u : Value), BindsTo s fd ⟨[u], []⟩ [(x, u)]) (hsp : ∀ H : Hp, Only H → SqL K H a (ns.map V.int) → sp [.ref a] H (fun v _ => v = .bl true) fun _ _ _ => False) :
    codeAny (model P w) callerA (.call (.ref fa) ⟨[.ref a], []⟩) (fun r s' => r = .ok (.ret (.bool true)) ∧ OldK s1.heap s'.heap ∧ s'.os = s1.os ∧ AllBare s'.gens) s1 := by
  have rv := vals_ints hi
  have lv := hi.length
  cases hk : K.lookup a with
  | some o =>
    have e := KX a o hk
    rw [ha] at e
    cases e
    refine law_from (H := fun _ => none) KX hns hb hbb hlim hg ha hr F hbind (fun _ => Or.inl rfl) (fun b u z => ?_) (fun b z => absurd rfl z) (fun z => absurd rfl z) (hsp _ (fun _ => Or.inl rfl) (Or.inr ?_))
    · cases (show (none : Option HO) = some u from z)
    · exact ⟨_, vs.toArray, _, hk, rfl, rfl, rfl, by rw [List.size_toArray, lv]; exact hl, by simpa using rv⟩
  | none =>
    let ob : Obj := { cls := .type "list", data := .seq vs.toArray }
    have one : ∀ b, (if b = a then some (HO.frz ob (.lst (ns.map V.int))) else none) ≠ none → b = a := fun b z => by
      by_cases hb : b = a
      · exact hb
      · exact absurd (if_neg hb) z
    have only : Only (fun b => if b = a then some (HO.frz ob (.lst (ns.map V.int))) else none) := fun b => by
      by_cases hb : b = a
      · exact Or.inr ⟨_, _, if_pos hb⟩
      · exact Or.inl (if_neg hb)
    refine law_from (H := fun b => if b = a then some (HO.frz ob (.lst (ns.map V.int))) else none) KX hns hb hbb hlim hg ha hr F hbind only (fun b u z => ?_) one (fun _ => hk) (hsp _ only (Or.inl (Or.inr ⟨ob, if_pos rfl⟩)))
    by_cases hb : b = a
    · obtain rfl := Option.some.inj ((if_pos hb).symm.trans z)
      subst hb
      exact ⟨ha, by rw [List.length_map]; exact hl, vs, _, rv, ha⟩
    · cases (if_neg hb).symm.trans z
end
theorem walk_g {l : PySem.W.OpenLaw} {n k : Nat} {q : Program} {loose : List Str} {XP : (Str → Option Value) → Heap → Prop} {YP : World → Heap → Prop} {d : DefRec} {K : Params → PySem.W.Frag} {sp : PySem.W.Frag → Sp} {x : Str}
    (hn : l.most = some n) (hn2 : n ≤ sizeLine) (hdf : d.params.defaults = []) (hr : Room k callerA) (hY : ∀ (w : World) (h : Heap), YP w h → (K w.params).In h)
    (F : ∀ (w : World) (mg : Str → Option Value) (fa : Addr) (h : Heap), (K w.params).In h → h.Ns mainGlobals mg → mg d.name = some (.ref fa) → ∃ fd : FuncData, (∀ (s : Shared) (u : Value), BindsTo s fd ⟨[u], []⟩ [(x, u)]) ∧
        ∀ base : Heap, (K w.params).In base → base.Ns mainGlobals mg → FnG l.prog w (K w.params) mg base k fa fd [x] (sp (K w.params)))
    (hsp : ∀ (K : PySem.W.Frag) (H : Hp) (a : Addr) (ns : List Int), ns.length ≤ n → SqL K H a (ns.map V.int) → sp K [.ref a] H (fun v _ => v = .bl true) fun _ _ _ => False) :
    PySem.W.WalkO q loose XP YP l.row.toRowW d [] (fun f vs => PySem.call f vs) := by
  refine Att.attach_call hn hdf fun w s0 s1 mg mb fa o pm cd doc a vs ns G Y ho hd hcd hmg hobj hints hlen hg => ?_
  obtain ⟨fd, hb, hF⟩ := F w mg fa _ (hY w _ Y) G.T.g hmg
  exact law_g (hY w _ Y) G.T.g G.T.b G.T.builtins G.T.nolimit hg hobj hints (Nat.le_trans hlen hn2) hr hF hb fun H _ hS => hsp (K w.params) H a ns hlen hS
end Gd
set_option Elab.async false
set_option linter.all false
set_option maxRecDepth 100000
/-! Common words: sizes of ints, heaps that grow, defs of the text by their names. -/
namespace Gd
open PySem PySem.Spec PyProof.Rows L2
/-! ### sizes -/
def B (n : Nat) (x : Int) : Prop := x.natAbs < 2 ^ n
theorem B.up {m n : Nat} {x : Int} (h : B m x) (k : m ≤ n) : B n x := Nat.lt_of_lt_of_le h (Nat.pow_le_pow_right (by decide) k)
theorem B.add {m n : Nat} {x y : Int} (hx : B m x) (hy : B n y) : B (max m n + 1) (x + y) := by
  have h1 : x.natAbs < 2 ^ max m n := hx.up (Nat.le_max_left m n)
  have h2 : y.natAbs < 2 ^ max m n := hy.up (Nat.le_max_right m n)
  unfold B
  rw [Nat.pow_succ]
  omega
theorem B.neg {n : Nat} {x : Int} (hx : B n x) : B n (-x) := by
  unfold B at *
  omega
theorem B.sub {m n : Nat} {x y : Int} (hx : B m x) (hy : B n y) : B (max m n + 1) (x - y) := by
  rw [Int.sub_eq_add_neg]
  exact hx.add hy.neg
theorem B.mul {m n : Nat} {x y : Int} (hx : B m x) (hy : B n y) : B (m + n) (x * y) := wide_lt hx hy
theorem B.pow {m : Nat} {x : Int} (hx : B m x) : ∀ k : Nat, B (m * k + 1) (x ^ k)
  | 0 => by
    rw [Int.pow_zero]
    exact Nat.one_lt_two_pow (by omega)
  | k + 1 => by
    rw [Int.pow_succ]
    exact ((B.pow hx k).mul hx).up (by rw [Nat.mul_succ]; omega)
theorem B.lit {n : Nat} {x : Int} (h : x.natAbs < 2 ^ n) : B n x := h
theorem B.mulW {m n : Nat} {x y : Int} (hx : B m x) (hy : B n y) (h : m + n ≤ 900000) : CMulW x y :=
  wide_mul (hx.up (Nat.le_add_right m 1)) (hy.up (Nat.le_add_right n 1)) (by omega) (by omega) (by omega)
theorem B.mulL {n : Nat} {x y : Int} (hx : B n x) (h : n ≤ 64) : CMul x y := by
  have h1 := hx.up h
  unfold B at h1
  exact Or.inl ⟨by omega, by omega⟩
theorem B.mulR {n : Nat} {x y : Int} (hy : B n y) (h : n ≤ 64) : CMul x y := by
  have h1 := hy.up h
  unfold B at h1
  exact Or.inr ⟨by omega, by omega⟩
theorem B.log {n : Nat} {x : Int} (hx : B n x) (h : n ≤ 1900) : x.natAbs.log2 < 1920 := by
  have h1 : x.natAbs < 2 ^ 1901 := hx.up (by omega)
  exact PySem.Flt.log2_lt_of (by decide) (Nat.lt_of_lt_of_le h1 (Nat.pow_le_pow_right (by decide) (by decide)))
theorem B.between {n : Nat} {x : Int} (m : Int) (h0 : -m ≤ x) (h1 : x ≤ m) (h : m.natAbs < 2 ^ n) : B n x := by
  unfold B
  omega
theorem small {n : Nat} (h : n ≤ 1000) : n ≤ sizeLine := Nat.le_trans h (by decide)
/-! ### heaps -/
theorem Same.new {H : Hp} {p : Addr} {o : HO} (h : H p = none) : Same H (upd H p o) := fun b x e => by
  rw [upd_ne (ne_of_none e h)]
  exact e
theorem Same.put {H H1 : Hp} {p : Addr} {o : HO} (s : Same H H1) (h : H p = none) : Same H (upd H1 p o) := fun b x e => by
  rw [upd_ne (ne_of_none e h)]
  exact s b x e
theorem Same.rd {H H' : Hp} {a : Addr} {u : HO} (e : Same H H') (h : Rd H a u) : Rd H' a u := by
  rcases h with h | ⟨o, h⟩
  · exact Or.inl (e _ _ h)
  · exact Or.inr ⟨o, e _ _ h⟩
theorem Same.tup {K : PySem.W.Frag} {H H' : Hp} {a : Addr} {xs : List V} (e : Same H H') (h : SqT K H a xs) : SqT K H' a xs := by
  rcases h with h | h
  · exact Or.inl (Same.rd e h)
  · exact Or.inr h
theorem tup_of {K : PySem.W.Frag} {H : Hp} {a : Addr} {xs : List V} (h : H a = some (.tup xs)) : SqT K H a xs := Or.inl (Or.inl h)
theorem lst_of {K : PySem.W.Frag} {H : Hp} {a : Addr} {xs : List V} (h : H a = some (.lst xs)) : SqL K H a xs := Or.inl (Or.inl h)
/-- all but what stands at m is as it was -/
def But (m : Addr) (H H' : Hp) : Prop := ∀ b o, H b = some o → b ≠ m → H' b = some o
theorem But.refl (m : Addr) (H : Hp) : But m H H := fun _ _ e _ => e
theorem But.trans {m : Addr} {H H1 H2 : Hp} (a : But m H H1) (b : But m H1 H2) : But m H H2 := fun c o e n => b c o (a c o e n) n
theorem But.of {m : Addr} {H H' : Hp} (a : Same H H') : But m H H' := fun c o e _ => a c o e
theorem But.upd {m : Addr} {H : Hp} {o : HO} : But m H (upd H m o) := fun c x e n => by
  rw [upd_ne n]
  exact e
/-- the same where m was not known -/
theorem But.same {m : Addr} {H H1 H2 : Hp} (s : Same H H1) (b : But m H1 H2) (h : H m = none) : Same H H2 := fun c o e => b c o (s c o e) (ne_of_none e h)
/-- the slots said anew -/
theorem sig {nx : L2.St → Hp → Prop} {σ : L2.St} {H : Hp} (σ' : L2.St) (e : σ = σ') (h : nx σ' H) : nx σ H := e ▸ h
theorem sigN {nx : L2.St → Hp → Prop} {i : Nat} {v : V} {σ : L2.St} {H : Hp} (σ' : L2.St) (e : σ.set i (some v) = σ') (h : nx σ' H) : gName i v σ H nx := by
  subst e
  exact h
/-- a number of the module -/
theorem pe_kon {X : Cx} {x : Str} {pos : Pos} {v : V} (hg : Gl X x) (h : ∃ u, X.mg x = some u ∧ RelV v u) (hd : (x == ("__debug__" : Str)) = false := by decide) : PE X (.Name x pos) (tC v) := by
  obtain ⟨u, hm, r⟩ := h
  exact pe_glob hg hm r hd
/-- int(n) of a number -/
theorem call_intI {X : Cx} : CallR X (.type "int") (fun xs H Q => ∃ i, xs = [.int i] ∧ Q (.int i) H) := fun pins s σ H xs us Q I r h => call_int1 pins s σ H xs us Q I r (Or.inl h)
/-! ### the state of the draws: four entries -/
def mk4 (L s : Int) (c : Addr) (n : Int) : List (Key × V) := [(Sum.inr "left", .int L), (Sum.inr "seed", .int s), (Sum.inr "cells", .ref c), (Sum.inr "spot", .int n)]
theorem kn12 : ¬ (("left" : Str) = "seed") := by decide +kernel
theorem kn13 : ¬ (("left" : Str) = "cells") := by decide +kernel
theorem kn14 : ¬ (("left" : Str) = "spot") := by decide +kernel
theorem kn23 : ¬ (("seed" : Str) = "cells") := by decide +kernel
theorem kn24 : ¬ (("seed" : Str) = "spot") := by decide +kernel
theorem kn34 : ¬ (("cells" : Str) = "spot") := by decide +kernel
theorem kn21 : ¬ (("seed" : Str) = "left") := by decide +kernel
theorem kn31 : ¬ (("cells" : Str) = "left") := by decide +kernel
theorem kn41 : ¬ (("spot" : Str) = "left") := by decide +kernel
theorem kn42 : ¬ (("spot" : Str) = "seed") := by decide +kernel
theorem kn43 : ¬ (("spot" : Str) = "cells") := by decide +kernel
theorem kn32 : ¬ (("cells" : Str) = "seed") := by decide +kernel
section
variable {L s n : Int} {c : Addr}
theorem m4_left : valV (mk4 L s c n) (Sum.inr "left") = some (.int L) := by simp [valV, mk4, List.find?_cons]
theorem m4_seed : valV (mk4 L s c n) (Sum.inr "seed") = some (.int s) := by simp [valV, mk4, List.find?_cons, kn12]
theorem m4_cells : valV (mk4 L s c n) (Sum.inr "cells") = some (.ref c) := by simp [valV, mk4, List.find?_cons, kn13, kn23]
theorem m4_spot : valV (mk4 L s c n) (Sum.inr "spot") = some (.int n) := by simp [valV, mk4, List.find?_cons, kn14, kn24, kn34]
theorem m4_putL (y : Int) : putK (mk4 L s c n) (Sum.inr "left") (.int y) = mk4 y s c n := by simp [putK, mk4, kn21, kn31, kn41]
theorem m4_merge : mergeK [] (mk4 L s c n) = mk4 L s c n := by simp [mergeK, putK, mk4, List.foldl, kn12, kn13, kn14, kn23, kn24, kn34]
theorem m4_putS (y : Int) : putK (mk4 L s c n) (Sum.inr "spot") (.int y) = mk4 L s c y := by simp [putK, mk4, kn14, kn24, kn34]
end
/-- the state stands at m, with at most n draws out of the cells behind it -/
def MAt (H : Hp) (m c : Addr) (n : Nat) : Prop := ∃ (L s : Int) (cs : List Int) (k : Nat), H m = some (.dK (mk4 L s c (k : Int))) ∧ k ≤ n ∧ H c = some (.lst (cs.map V.int)) ∧ 0 < cs.length
theorem MAt.up {H : Hp} {m cl : Addr} {n n' : Nat} (h : MAt H m cl n) (k : n ≤ n') : MAt H m cl n' := by
  obtain ⟨L, s, cs, j, h1, h2, h3, h4⟩ := h
  exact ⟨L, s, cs, j, h1, Nat.le_trans h2 k, h3, h4⟩
theorem MAt.same {H H' : Hp} {m cl : Addr} {n : Nat} (h : MAt H m cl n) (e : Same H H') : MAt H' m cl n := by
  obtain ⟨L, s, cs, j, h1, h2, h3, h4⟩ := h
  exact ⟨L, s, cs, j, e _ _ h1, h2, e _ _ h3, h4⟩
theorem MAt.some {H : Hp} {m cl : Addr} {n : Nat} (h : MAt H m cl n) : ∃ kvs, H m = some (.dK kvs) := by
  obtain ⟨L, s, cs, j, h1, _⟩ := h
  exact ⟨_, h1⟩
theorem MAt.ne {H : Hp} {m cl p : Addr} {n : Nat} (h : MAt H m cl n) (e : H p = none) : m ≠ p ∧ cl ≠ p := by
  obtain ⟨L, s, cs, j, h1, h2, h3, h4⟩ := h
  exact ⟨ne_of_none h1 e, ne_of_none h3 e⟩
theorem MAt.put {H : Hp} {m cl p : Addr} {n : Nat} {o : HO} (h : MAt H m cl n) (e : m ≠ p ∧ cl ≠ p) : MAt (upd H p o) m cl n := by
  obtain ⟨L, s, cs, j, h1, h2, h3, h4⟩ := h
  refine ⟨L, s, cs, j, ?_, h2, ?_, h4⟩
  · rw [upd_ne e.1]
    exact h1
  · rw [upd_ne e.2]
    exact h3
/-- what the draws leave: fresh stays fresh -/
theorem But.free {m p cl : Addr} {H H' : Hp} {n : Nat} (b : But m H H') (h : MAt H' m cl n) (e : H' p = none) : H p = none := by
  obtain ⟨kvs, hm⟩ := h.some
  cases q : H p with
  | none => rfl
  | some o =>
    by_cases hp : p = m
    · subst hp
      rw [hm] at e
      cases e
    · rw [b p o q hp] at e
      cases e
theorem But.tup {m p cl : Addr} {H H' : Hp} {n : Nat} {xs : List V} (b : But m H H') (h : MAt H m cl n) (e : H p = some (.tup xs)) : H' p = some (.tup xs) := by
  obtain ⟨kvs, hm⟩ := h.some
  exact b p _ e (ne_of e hm (by intro z; cases z))
theorem But.lst {m p cl : Addr} {H H' : Hp} {n : Nat} {xs : List V} (b : But m H H') (h : MAt H m cl n) (e : H p = some (.lst xs)) : H' p = some (.lst xs) := by
  obtain ⟨kvs, hm⟩ := h.some
  exact b p _ e (ne_of e hm (by intro z; cases z))
theorem But.seqL {K : PySem.W.Frag} {m p cl : Addr} {H H' : Hp} {n : Nat} {xs : List V} (b : But m H H') (h : MAt H m cl n) (e : SqL K H p xs) : SqL K H' p xs := by
  obtain ⟨kvs, hm⟩ := h.some
  rcases e with (e | ⟨o, e⟩) | e
  · exact Or.inl (Or.inl (b p _ e (ne_of e hm (by intro z; cases z))))
  · exact Or.inl (Or.inr ⟨o, b p _ e (ne_of e hm (by intro z; cases z))⟩)
  · exact Or.inr e
theorem But.seqT {K : PySem.W.Frag} {m p cl : Addr} {H H' : Hp} {n : Nat} {xs : List V} (b : But m H H') (h : MAt H m cl n) (e : SqT K H p xs) : SqT K H' p xs := by
  obtain ⟨kvs, hm⟩ := h.some
  rcases e with (e | ⟨o, e⟩) | e
  · exact Or.inl (Or.inl (b p _ e (ne_of e hm (by intro z; cases z))))
  · exact Or.inl (Or.inr ⟨o, b p _ e (ne_of e hm (by intro z; cases z))⟩)
  · exact Or.inr e
/-! ### tuples -/
theorem catA_any {K : PySem.W.Frag} {H : Hp} {Q : VK} {a b : Addr} {xs ys : List V} (ha : SqT K H a xs) (hb : SqT K H b ys) (hl : xs.length + ys.length ≤ 1000) (k : ∀ p H', Same H H' → SqT K H' p (xs ++ ys) → Q (.ref p) H') : rCatA K (.ref a) (.ref b) H Q := by
  refine ⟨a, b, xs, ys, rfl, rfl, ha, hb, small hl, fun e => ?_, fun _ e => ?_, fun _ _ p hp => k p _ (Same.new hp) (tup_of upd_same)⟩
  · subst e
    exact k b H (Same.refl H) hb
  · subst e
    exact k a H (Same.refl H) (by rw [List.append_nil]; exact ha)
theorem slA_any {K : PySem.W.Frag} {H : Hp} {Q : VK} {a : Addr} {xs : List V} {lo hi : Option Int} (ha : SqT K H a xs) (k : ∀ p H', Same H H' → SqT K H' p (cutV xs lo hi) → Q (.ref p) H') : rSlA K (.ref a) lo hi H Q := by
  refine ⟨a, xs, rfl, ha, fun e => ?_, fun _ p hp => k p _ (Same.new hp) (tup_of upd_same)⟩
  refine k a H (Same.refl H) ?_
  have e2 : cutV xs lo hi = xs := by
    unfold cutV
    rw [e.1, e.2, List.drop_zero, Nat.sub_zero, List.take_length]
  rw [e2]
  exact ha
/-! ### defs by their names -/
structure Df (K : PySem.W.Frag) (mg : Str → Option Value) (x : Str) (st : Stmt) (ps : List Str) : Prop where
  ex : ∃ (f : Addr) (fd : FuncData), Fun K x x st f fd ∧ mg x = some (.ref f) ∧ Binds K fd ps []
section
variable {P : Program} {w : World} {K : PySem.W.Frag} {mg : Str → Option Value} {base : Heap} {x : Str} {st : Stmt} {N ps : List Str} {k : Nat} {sp : Sp}
theorem Kl.by_body (D : Df K mg x st ps) (S : FnScope N ps (defScope st)) (len : ∀ vs H Q E, sp vs H Q E → vs.length = ps.length)
    (hb : ∀ (f : Addr) (cdv : Value) (A : Around) (outer : List Env) (s : Shared) (H : Hp) (vs : List V) (Q : VK) (E : XK), Room k (A.deeper (envOfC x (defScope st) s.heap.objs.size f cdv)) → sp vs H Q E →
      ∃ t, PSs (cxOf CX0 P w K mg base N x (defScope st) f cdv A outer s H E).nox (defBody st) t ∧ t { nx := fun _ H' => Q .non H', rt := Q } (start N vs) H) : Kl P w K mg base (k + 1) x sp := by
  obtain ⟨f, fd, F, hm, b⟩ := D.ex
  exact ⟨f, fd, ps, F.ok S len (hb f), hm, F.kp, b⟩
theorem Kg.by_body (D : Df K mg x st ps) (S : FnScope N ps (defScope st)) (len : ∀ vs H Q E, sp vs H Q E → vs.length = ps.length)
    (hb : ∀ (f : Addr) (cdv : Value) (A : Around) (outer : List Env) (s : Shared) (H : Hp) (vs : List V) (Q : VK) (E : XK), A.guards = some [] → Room k (A.deeper (envOfC x (defScope st) s.heap.objs.size f cdv)) → sp vs H Q E →
      ∃ t, PSs (cxOf CX0 P w K mg base N x (defScope st) f cdv A outer s H E).nox (defBody st) t ∧ t { nx := fun _ H' => Q .non H', rt := Q } (start N vs) H) : Kg P w K mg base (k + 1) x sp := by
  obtain ⟨f, fd, F, hm, b⟩ := D.ex
  exact ⟨f, fd, ps, FnG.by_body F S len (hb f), hm, F.kp, b⟩
theorem df_mk {h : Heap} {f : Addr} {oc : Value} {od an : Option Addr} {osl : Array (Option Value)} {kV doc pm cdv ct : Value} (X : K.In h) (G : h.Ns mainGlobals mg) (a : PySem.W.nsIn K mainGlobals x = some (some (.ref f)))
    (l : K.lookup f = some ⟨oc, od, .func (PySem.W.fnOf x x (defArgs st) (defBody st) (defScope st) .none kV doc pm an cdv ct), osl⟩) (c : PySem.W.codeIn K cdv x = true) (kp : PySem.W.keepIn K (.ref f) = true)
    (hb : ∀ (kV doc pm : Value) (an : Option Addr) (cdv ct : Value) (us : List Value), us.length = ps.length → bindArgs (PySem.W.fnOf x x (defArgs st) (defBody st) (defScope st) .none kV doc pm an cdv ct) ⟨us, []⟩ = pure (ps.zip us)) : Df K mg x st ps :=
  ⟨f, _, fun_mk l c kp, PySem.W.mg_of X G a, (fun_mk l c kp).binds hb⟩
theorem law_fd {h : Heap} {fa f : Addr} {j : Nat} {oc : Value} {od an : Option Addr} {osl : Array (Option Value)} {kV doc pm cdv ct : Value} (X : K.In h) (G : h.Ns mainGlobals mg) (hfa : mg "law" = some (.ref fa)) (a : PySem.W.nsIn K mainGlobals "law" = some (some (.ref f)))
    (l : K.lookup f = some ⟨oc, od, .func (PySem.W.fnOf "law" "law" (defArgs st) (defBody st) (defScope st) .none kV doc pm an cdv ct), osl⟩) (c : PySem.W.codeIn K cdv "law" = true) (kp : PySem.W.keepIn K (.ref f) = true)
    (hb : ∀ (kV doc pm : Value) (an : Option Addr) (cdv ct : Value) (us : List Value), us.length = 1 → bindArgs (PySem.W.fnOf "law" "law" (defArgs st) (defBody st) (defScope st) .none kV doc pm an cdv ct) ⟨us, []⟩ = pure ((["script"] : List Str).zip us))
    (go : ∀ fd, Fun K "law" "law" st fa fd → ∀ base : Heap, FnG P w K mg base j fa fd ["script"] sp) :
    ∃ fd : FuncData, (∀ (s : Shared) (u : Value), BindsTo s fd ⟨[u], []⟩ [("script", u)]) ∧ ∀ base : Heap, K.In base → base.Ns mainGlobals mg → FnG P w K mg base j fa fd ["script"] sp := by
  have e := hfa.symm.trans (PySem.W.mg_of X G a)
  cases e
  exact ⟨_, fun s u => .of_eq (hb kV doc pm an cdv ct [u] rfl), fun base _ _ => go _ (fun_mk l c kp) base⟩
end
end Gd
set_option linter.all false
/-! fractions: plain Lean -/
namespace QM
/-- n / d in lowest terms -/
def sg (n d : Int) : Int := if d < 0 then -((Nat.gcd n.natAbs d.natAbs : Nat) : Int) else ((Nat.gcd n.natAbs d.natAbs : Nat) : Int)
theorem sg_ne {n d : Int} (h : d ≠ 0) : sg n d ≠ 0 := by
  have hp : 0 < Nat.gcd n.natAbs d.natAbs := Nat.gcd_pos_of_pos_right _ (by omega)
  unfold sg
  split <;> omega
theorem fdiv_neg' (a b : Int) : (-a).fdiv (-b) = a.fdiv b := by
  exact Int.neg_fdiv_neg a b
theorem fr_num {n d : Int} (h : d ≠ 0) : n.fdiv (sg n d) = (Rat.divInt n d).num := by
  rw [Rat.num_divInt]
  unfold sg
  have g0 : ((Int.gcd d n : Nat) : Int) = ((Nat.gcd n.natAbs d.natAbs : Nat) : Int) := by rw [Int.gcd_comm]; rfl
  split
  · rename_i e
    rw [Int.sign_eq_neg_one_of_neg e, g0, Int.neg_mul, Int.one_mul]
    have e1 : n.fdiv (-((Nat.gcd n.natAbs d.natAbs : Nat) : Int)) = (-n).fdiv ((Nat.gcd n.natAbs d.natAbs : Nat) : Int) := by
      rw [← fdiv_neg' n, Int.neg_neg]
    rw [e1, Int.fdiv_eq_ediv_of_nonneg _ (by omega)]
  · rename_i e
    rw [Int.sign_eq_one_of_pos (by omega), g0, Int.one_mul, Int.fdiv_eq_ediv_of_nonneg _ (by omega)]
theorem fr_den {n d : Int} (h : d ≠ 0) : d.fdiv (sg n d) = ((Rat.divInt n d).den : Int) := by
  rw [Rat.den_divInt, if_neg h]
  have g0 : Int.gcd d n = Nat.gcd n.natAbs d.natAbs := by rw [Int.gcd_comm]; rfl
  rw [g0]
  unfold sg
  split
  · rename_i e
    have e1 : d.fdiv (-((Nat.gcd n.natAbs d.natAbs : Nat) : Int)) = (-d).fdiv ((Nat.gcd n.natAbs d.natAbs : Nat) : Int) := by
      rw [← fdiv_neg' d, Int.neg_neg]
    rw [e1, Int.fdiv_eq_ediv_of_nonneg _ (by omega), Int.natCast_ediv]
    congr 1
    omega
  · rename_i e
    rw [Int.fdiv_eq_ediv_of_nonneg _ (by omega), Int.natCast_ediv]
    congr 1
    omega
theorem den_ne (a : Rat) : (a.den : Int) ≠ 0 := by
  have := a.den_nz
  omega
theorem denR (a : Rat) : ((a.den : Int) : Rat) ≠ 0 := by
  intro h
  exact den_ne a (by exact_mod_cast h)
theorem as_div (a : Rat) : a = (a.num : Rat) / ((a.den : Int) : Rat) := by
  rw [← Rat.divInt_eq_div, Rat.num_divInt_den]
theorem fr_add (a b : Rat) : Rat.divInt (a.num * b.den + b.num * a.den) (a.den * b.den) = a + b := by
  have ha := denR a
  have hb := denR b
  have ea := as_div a
  have eb := as_div b
  rw [Rat.divInt_eq_div, Rat.intCast_add, Rat.intCast_mul, Rat.intCast_mul, Rat.intCast_mul]
  grind
theorem fr_sub (a b : Rat) : Rat.divInt (a.num * b.den - b.num * a.den) (a.den * b.den) = a - b := by
  have ha := denR a
  have hb := denR b
  have ea := as_div a
  have eb := as_div b
  rw [Rat.divInt_eq_div, Rat.intCast_sub, Rat.intCast_mul, Rat.intCast_mul, Rat.intCast_mul]
  grind
theorem fr_mul (a b : Rat) : Rat.divInt (a.num * b.num) (a.den * b.den) = a * b := by
  have ha := denR a
  have hb := denR b
  have ea := as_div a
  have eb := as_div b
  rw [Rat.divInt_eq_div, Rat.intCast_mul, Rat.intCast_mul]
  grind
theorem num_ne {a : Rat} (h : a ≠ 0) : a.num ≠ 0 := fun e => h (Rat.num_eq_zero.mp e)
theorem fr_div (a b : Rat) (h : b ≠ 0) : Rat.divInt (a.num * b.den) (a.den * b.num) = a / b := by
  have ha := denR a
  have hb := denR b
  have ea := as_div a
  have eb := as_div b
  have hn : (b.num : Rat) ≠ 0 := fun e => num_ne h (by exact_mod_cast e)
  rw [Rat.divInt_eq_div, Rat.intCast_mul, Rat.intCast_mul]
  grind
theorem mul_ne {a b : Int} (h : a ≠ 0) (k : b ≠ 0) : a * b ≠ 0 := Int.mul_ne_zero h k
/-! sizes -/
def RB (n : Nat) (q : Rat) : Prop := q.num.natAbs < 2 ^ n ∧ (q.den : Int).natAbs < 2 ^ n
theorem RB.up {m n : Nat} {q : Rat} (h : RB m q) (k : m ≤ n) : RB n q := ⟨Nat.lt_of_lt_of_le h.1 (Nat.pow_le_pow_right (by decide) k), Nat.lt_of_lt_of_le h.2 (Nat.pow_le_pow_right (by decide) k)⟩
theorem dv_le {x g : Int} (h : g ≠ 0) (d : g ∣ x) : (x.fdiv g).natAbs ≤ x.natAbs := by
  obtain ⟨k, rfl⟩ := d
  rw [Int.mul_fdiv_cancel_left k h, Int.natAbs_mul]
  have h1 : 1 ≤ g.natAbs := by omega
  have h2 : 1 * k.natAbs ≤ g.natAbs * k.natAbs := Nat.mul_le_mul_right _ h1
  omega
theorem sg_dvd (n d : Int) : sg n d ∣ n := by
  have h : ((Nat.gcd n.natAbs d.natAbs : Nat) : Int) ∣ n := Int.ofNat_dvd_left.mpr (Nat.gcd_dvd_left _ _)
  unfold sg
  split
  · exact Int.neg_dvd.mpr h
  · exact h
theorem sg_dvd2 (n d : Int) : sg n d ∣ d := by
  have h : ((Nat.gcd n.natAbs d.natAbs : Nat) : Int) ∣ d := Int.ofNat_dvd_left.mpr (Nat.gcd_dvd_right _ _)
  unfold sg
  split
  · exact Int.neg_dvd.mpr h
  · exact h
theorem RB.of {m : Nat} {n d : Int} (h : d ≠ 0) (hn : n.natAbs < 2 ^ m) (hd : d.natAbs < 2 ^ m) : RB m (Rat.divInt n d) := by
  unfold RB
  rw [← fr_num h, ← fr_den (n := n) h]
  exact ⟨Nat.lt_of_le_of_lt (dv_le (sg_ne h) (sg_dvd n d)) hn, Nat.lt_of_le_of_lt (dv_le (sg_ne h) (sg_dvd2 n d)) hd⟩
theorem pmul {m n a b : Nat} (ha : a < 2 ^ m) (hb : b < 2 ^ n) : a * b < 2 ^ (m + n) := by
  rw [Nat.pow_add]
  rcases Nat.eq_zero_or_pos b with h | h
  · subst h
    rw [Nat.mul_zero]
    exact Nat.mul_pos (Nat.two_pow_pos m) (Nat.two_pow_pos n)
  · exact Nat.mul_lt_mul_of_lt_of_le ha (Nat.le_of_lt hb) (Nat.two_pow_pos n)
theorem RB.add {m n : Nat} {a b : Rat} (ha : RB m a) (hb : RB n b) : RB (m + n + 1) (a + b) := by
  rw [← fr_add]
  have h1 := pmul ha.1 hb.2
  have h2 := pmul ha.2 hb.1
  have h3 := pmul ha.2 hb.2
  refine RB.of (mul_ne (den_ne a) (den_ne b)) ?_ ?_
  · rw [Nat.pow_succ]
    have h4 : (a.num * ↑b.den + b.num * ↑a.den).natAbs ≤ (a.num * ↑b.den).natAbs + (b.num * ↑a.den).natAbs := Int.natAbs_add_le _ _
    rw [Int.natAbs_mul, Int.natAbs_mul, Nat.mul_comm b.num.natAbs] at h4
    omega
  · rw [Nat.pow_succ, Int.natAbs_mul]
    omega
theorem RB.neg {m : Nat} {a : Rat} (ha : RB m a) : RB m (-a) := by
  unfold RB at *
  rw [Rat.neg_num, Rat.neg_den, Int.natAbs_neg]
  exact ha
theorem RB.sub {m n : Nat} {a b : Rat} (ha : RB m a) (hb : RB n b) : RB (m + n + 1) (a - b) := by
  rw [Rat.sub_eq_add_neg]
  exact ha.add hb.neg
theorem RB.mul {m n : Nat} {a b : Rat} (ha : RB m a) (hb : RB n b) : RB (m + n) (a * b) := by
  rw [← fr_mul]
  refine RB.of (mul_ne (den_ne a) (den_ne b)) ?_ ?_
  · rw [Int.natAbs_mul]
    exact pmul ha.1 hb.1
  · rw [Int.natAbs_mul]
    exact pmul ha.2 hb.2
theorem RB.div {m n : Nat} {a b : Rat} (h : b ≠ 0) (ha : RB m a) (hb : RB n b) : RB (m + n) (a / b) := by
  rw [← fr_div a b h]
  refine RB.of (mul_ne (den_ne a) (num_ne h)) ?_ ?_
  · rw [Int.natAbs_mul]
    exact pmul ha.1 hb.2
  · rw [Int.natAbs_mul]
    exact pmul ha.2 hb.1
theorem RB.int {m : Nat} {n : Int} (h : n.natAbs < 2 ^ m) (k : 1 ≤ m) : RB m (n : Rat) := by
  unfold RB
  rw [Rat.num_intCast, Rat.den_intCast]
  exact ⟨h, Nat.lt_of_lt_of_le (by decide : 1 < 2 ^ 1) (Nat.pow_le_pow_right (by decide) k)⟩
theorem RB.pow {m : Nat} {a : Rat} (ha : RB m a) : ∀ k : Nat, RB (m * k + 1) (a ^ k)
  | 0 => by
    rw [Rat.pow_zero]
    exact RB.int (n := 1) (by rw [Nat.mul_zero]; decide) (by omega)
  | k + 1 => by
    rw [Rat.pow_succ]
    exact (RB.mul (RB.pow ha k) ha).up (by rw [Nat.mul_succ]; omega)
/-! powers -/
theorem npow (a : Rat) (k : Nat) : (a ^ k).num = a.num ^ k := Rat.num_pow a k
theorem dpow (a : Rat) (k : Nat) : (a ^ k).den = a.den ^ k := Rat.den_pow a k
theorem le_npow (a : Nat) {k : Nat} (h : 1 ≤ k) : a ≤ a ^ k := by
  rcases Nat.eq_zero_or_pos a with e | e
  · omega
  · calc a = a ^ 1 := (Nat.pow_one a).symm
      _ ≤ a ^ k := Nat.pow_le_pow_right e h
theorem RB.root {m k : Nat} {a : Rat} (h : 1 ≤ k) (ha : RB m (a ^ k)) : RB m a := by
  unfold RB at *
  rw [npow, dpow, Int.natAbs_pow] at ha
  refine ⟨Nat.lt_of_le_of_lt (le_npow _ h) ha.1, ?_⟩
  have e : ((a.den ^ k : Nat) : Int).natAbs = a.den ^ k := Int.natAbs_natCast _
  rw [e] at ha
  rw [Int.natAbs_natCast]
  exact Nat.lt_of_le_of_lt (le_npow _ h) ha.2
theorem num_pos {a : Rat} (h : 0 < a) : 0 < a.num := by
  have h1 : 0 ≤ a.num := Rat.num_nonneg.mpr (Rat.le_of_lt h)
  have h2 : a.num ≠ 0 := num_ne (fun e => by rw [e] at h; exact absurd h (by decide))
  omega
end QM
set_option Elab.async false
set_option linter.all false
set_option maxRecDepth 100000
/-! fractions as pairs of ints; promises of the sums -/
namespace Gd
open PySem PySem.Spec PyProof.Rows L2 QM
/-- // by any divisor but 0, below 2 ^ 9000 -/
def CDivAny (_ j : Int) : Prop := j ≠ 0 ∧ j.natAbs.log2 < 9000
theorem op_fdivAny {X : Cx} : OpR X (binaryOp .FloorDiv) (rI CDivAny fun i j => .int (i.fdiv j)) := opI fun _ _ _ _ _ _ _ hc q => floordiv_int hc.1 q (.inl (PyProof.noPylong_of_log2 hc.2))
theorem B.log9 {n : Nat} {x : Int} (hx : B n x) (h : n ≤ 8900) : x.natAbs.log2 < 9000 := by
  have h1 : x.natAbs < 2 ^ 8901 := hx.up (by omega)
  exact PySem.Flt.log2_lt_of (by decide) (Nat.lt_of_lt_of_le h1 (Nat.pow_le_pow_right (by decide) (by decide)))
theorem div_any {m : Nat} {i j : Int} (h : j ≠ 0) (hb : B m j) (hm : m ≤ 8900) : CDivAny i j := ⟨h, hb.log9 hm⟩
theorem gcd_B {m : Nat} {n d : Int} (h : d ≠ 0) (hb : B m d) : B m ((Nat.gcd n.natAbs d.natAbs : Nat) : Int) := by
  unfold B at *
  have h1 : Nat.gcd n.natAbs d.natAbs ≤ d.natAbs := Nat.gcd_le_right _ (by omega)
  omega
theorem sg_B {m : Nat} {n d : Int} (h : d ≠ 0) (hb : B m d) : B m (sg n d) := by
  unfold sg
  split
  · exact (gcd_B h hb).neg
  · exact gcd_B h hb
/-- a fraction's pair -/
def fq (q : Rat) : List V := [.int q.num, .int (q.den : Int)]
theorem fq_div {n d : Int} (h : d ≠ 0) : [V.int (n.fdiv (sg n d)), V.int (d.fdiv (sg n d))] = fq (Rat.divInt n d) := by
  unfold fq
  rw [fr_num h, fr_den h]
theorem fq_int (n : Int) : fq (n : Rat) = [.int n, .int 1] := by
  unfold fq
  rw [Rat.num_intCast, Rat.den_intCast]
  rfl
theorem fq_inj {a b : Rat} (h : fq a = fq b) : a = b := by
  unfold fq at h
  simp only [List.cons.injEq, V.int.injEq, and_true] at h
  exact Rat.ext h.1 (by omega)
def dq (q : Rat) : PyData := .tuple [.int q.num, .int (q.den : Int)]
theorem dp_q {K : PySem.W.Frag} {H : Hp} {p : Addr} {q : Rat} (h : SqT K H p (fq q)) : Dp K H (.ref p) (dq q) := .tup h (.cons (.int _) (.cons (.int _) .nil))
theorem dq_inj {a b : Rat} : dq a = dq b ↔ a = b := by
  constructor
  · intro h
    unfold dq at h
    simp only [PyData.tuple.injEq, List.cons.injEq, PyData.int.injEq, and_true] at h
    exact Rat.ext h.1 (by omega)
  · rintro rfl
    rfl
theorem _root_.QM.RB.n {m : Nat} {q : Rat} (h : RB m q) : B m q.num := h.1
theorem _root_.QM.RB.d {m : Nat} {q : Rat} (h : RB m q) : B m (q.den : Int) := h.2
theorem okq {m : Nat} {q : Rat} (h : RB m q) (k : m ≤ 1900) : okD (dq q) = true := by
  have h1 := B.log (RB.n h) k
  have h2 := B.log (RB.d h) k
  unfold dq
  rw [okD, okAll, okAll, okAll, okD, okD]
  rw [decide_eq_true h1, decide_eq_true h2]
  rfl
def spCut (K : PySem.W.Frag) : Sp := fun vs H Q _ => ∃ n d : Int, vs = [.int n, .int d] ∧ d ≠ 0 ∧ B 8200 n ∧ B 8200 d ∧ ∀ t, H t = none → Q (.ref t) (upd H t (.tup (fq (Rat.divInt n d))))
def spBin (ok : Rat → Rat → Prop) (op : Rat → Rat → Rat) (K : PySem.W.Frag) : Sp := fun vs H Q _ => ∃ (f g : Addr) (a b : Rat), vs = [.ref f, .ref g] ∧ SqT K H f (fq a) ∧ SqT K H g (fq b) ∧ RB 4000 a ∧ RB 4000 b ∧ ok a b ∧ ∀ t, H t = none → Q (.ref t) (upd H t (.tup (fq (op a b))))
/-- a list of fractions -/
def FrL (K : PySem.W.Frag) (H : Hp) (m : Nat) (ps : List (Addr × Rat)) : Prop := ∀ p ∈ ps, SqT K H p.1 (fq p.2) ∧ RB m p.2
def spSum (op : Rat → Rat → Rat) (e : Rat) (K : PySem.W.Frag) : Sp := fun vs H Q _ => ∃ (l : Addr) (ps : List (Addr × Rat)) (m : Nat), vs = [.ref l] ∧ SqL K H l (ps.map fun p => .ref p.1) ∧ FrL K H m ps ∧ ps.length * (m + 1) ≤ 3900 ∧ ∀ H' t, Same H H' → H t = none → H' t = some (.tup (fq (ps.foldl (fun x p => op x p.2) e))) → RB (ps.length * (m + 1) + 1) (ps.foldl (fun x p => op x p.2) e) → Q (.ref t) H'
/-- a list that is being made of the fractions of ints -/
def FrD (H : Hp) (D : Addr) (ns : List Int) (i : Nat) : Prop := ∃ L : List Addr, H D = some (.lst (L.map V.ref)) ∧ L.length = i ∧ ∀ (j : Nat) (p : Addr), L[j]? = some p → ∃ n : Int, ns[j]? = some n ∧ H p = some (.tup (fq (n : Rat)))
theorem FrD.new {H : Hp} {D : Addr} {ns : List Int} : FrD (upd H D (.lst [])) D ns 0 := ⟨[], upd_same, rfl, fun j p h => by simp at h⟩
theorem FrD.push {H : Hp} {D t : Addr} {ns : List Int} {i : Nat} {n : Int} (h : FrD H D ns i) (hi : ns[i]? = some n) (nt : H t = none) (hl : i < 1000) :
    ∃ acc, (upd H t (.tup (fq (n : Rat)))) D = some (.lst acc) ∧ acc.length < sizeLine ∧ FrD (upd (upd H t (.tup (fq (n : Rat)))) D (.lst (acc ++ [.ref t]))) D ns (i + 1) := by
  obtain ⟨L, h1, h2, h3⟩ := h
  have hDt : D ≠ t := ne_of_none h1 nt
  refine ⟨L.map V.ref, by rw [upd_ne hDt]; exact h1, by rw [List.length_map]; exact small1000 (by omega), L ++ [t], ?_, by rw [List.length_append, h2]; rfl, fun j p hj => ?_⟩
  · rw [upd_same, List.map_append]
    rfl
  · rcases Nat.lt_or_ge j L.length with z | z
    · rw [List.getElem?_append_left z] at hj
      obtain ⟨m, hm, hp⟩ := h3 j p hj
      refine ⟨m, hm, ?_⟩
      have hpD : p ≠ D := ne_of hp h1 (by intro z; cases z)
      rw [upd_ne hpD, upd_ne (ne_of_none hp nt)]
      exact hp
    · rw [List.getElem?_append_right z] at hj
      have e : j - L.length = 0 := by
        rcases Nat.eq_zero_or_pos (j - L.length) with q | q
        · exact q
        · rw [List.getElem?_eq_none (by simp; omega)] at hj
          cases hj
      rw [e] at hj
      obtain rfl := Option.some.inj hj
      have ej : j = i := by omega
      refine ⟨n, by rw [ej]; exact hi, ?_⟩
      rw [upd_ne (fun q => hDt q.symm), upd_same]
theorem FrD.five {H : Hp} {D : Addr} {a b c d e : Int} (h : FrD H D [a, b, c, d, e] 5) : ∃ p1 p2 p3 p4 p5, H D = some (.lst [.ref p1, .ref p2, .ref p3, .ref p4, .ref p5]) ∧ H p1 = some (.tup (fq (a : Rat))) ∧ H p2 = some (.tup (fq (b : Rat))) ∧ H p3 = some (.tup (fq (c : Rat))) ∧ H p4 = some (.tup (fq (d : Rat))) ∧ H p5 = some (.tup (fq (e : Rat))) := by
  obtain ⟨L, h1, h2, h3⟩ := h
  match L, h2 with
  | [p1, p2, p3, p4, p5], _ =>
    have g : ∀ (j : Nat) (p : Addr) (n : Int), [p1, p2, p3, p4, p5][j]? = some p → [a, b, c, d, e][j]? = some n → H p = some (.tup (fq (n : Rat))) := fun j p n x y => by
      obtain ⟨m, hm, hp⟩ := h3 j p x
      rw [y] at hm
      obtain rfl := Option.some.inj hm
      exact hp
    exact ⟨p1, p2, p3, p4, p5, h1, g 0 _ _ rfl rfl, g 1 _ _ rfl rfl, g 2 _ _ rfl rfl, g 3 _ _ rfl rfl, g 4 _ _ rfl rfl⟩
/-! what stands of fractions in the heap -/
def FrE (K : PySem.W.Frag) (H : Hp) (es : List (Addr × Rat × Nat)) : Prop := ∀ x ∈ es, SqT K H x.1 (fq x.2.1) ∧ RB x.2.2 x.2.1
section
variable {K : PySem.W.Frag} {H H' : Hp} {es : List (Addr × Rat × Nat)} {p r : Addr} {a b : Rat} {m n : Nat} {Q : VK} {Z : XK}
theorem FrE.nil : FrE K H [] := fun x h => by cases h
theorem FrE.same (h : FrE K H es) (s : Same H H') : FrE K H' es := fun x k => ⟨Same.tup s (h x k).1, (h x k).2⟩
theorem FrE.get (h : FrE K H es) (k : (p, a, m) ∈ es) : SqT K H p (fq a) := (h _ k).1
theorem FrE.rb (h : FrE K H es) (k : (p, a, m) ∈ es) : RB m a := (h _ k).2
theorem FrE.add (h : FrE K H es) (k : SqT K H p (fq a)) (b : RB m a) : FrE K H ((p, a, m) :: es) := fun x z => by
  rcases List.mem_cons.mp z with rfl | z
  · exact ⟨k, b⟩
  · exact h x z
theorem FrE.re (h : FrE K H ((p, a, m) :: es)) (e : a = b) (k : RB n b) : FrE K H ((p, b, n) :: es) := fun x z => by
  subst e
  rcases List.mem_cons.mp z with rfl | z
  · exact ⟨(h _ List.mem_cons_self).1, k⟩
  · exact h x (List.mem_cons_of_mem _ z)
theorem FrE.sub {fs : List (Addr × Rat × Nat)} (h : FrE K H es) (k : ∀ x ∈ fs, x ∈ es) : FrE K H fs := fun x z => h x (k x z)
theorem stepE (E : FrE K H es) {t : Addr} (n : H t = none) {c : Rat} {k : Nat} (hb : RB k c) : ∃ H', upd H t (.tup (fq c)) = H' ∧ Same H H' ∧ FrE K H' ((t, c, k) :: es) :=
  ⟨_, rfl, Same.new n, (E.same (Same.new n)).add (tup_of upd_same) hb⟩
theorem litE (E : FrE K H es) {t : Addr} (n : H t = none) {vs : List V} {c : Rat} {k : Nat} (e : vs = fq c) (hb : RB k c) : ∃ H', upd H t (.tup vs) = H' ∧ Same H H' ∧ FrE K H' ((t, c, k) :: es) := by
  subst e
  exact stepE E n hb
theorem FrL.nil {M : Nat} : FrL K H M [] := fun x h => by cases h
theorem FrL.cons {M : Nat} {ps : List (Addr × Rat)} (E : FrE K H es) (k : (p, a, m) ∈ es) (hm : m ≤ M) (h : FrL K H M ps) : FrL K H M ((p, a) :: ps) := fun x z => by
  rcases List.mem_cons.mp z with rfl | z
  · exact ⟨E.get k, (E.rb k).up hm⟩
  · exact h x z
end
mutual
theorem dp_same {K : PySem.W.Frag} {H H' : Hp} (s : Same H H') : ∀ (d : PyData) (v : V), Dp K H v d → Dp K H' v d
  | .none, _, h => by
    cases h
    exact .non
  | .bool _, _, h => by
    cases h
    exact .bl _
  | .int _, _, h => by
    cases h
    exact .int _
  | .str _, _, h => by
    cases h
    exact .str _
  | .list ds, _, h => by
    cases h with
    | lst h1 h2 => exact .lst (s.seq h1) (dp_sameAll s ds _ h2)
  | .tuple ds, _, h => by
    cases h with
    | tup h1 h2 => exact .tup (Same.tup s h1) (dp_sameAll s ds _ h2)
  | .dict _, _, h => by cases h
theorem dp_sameAll {K : PySem.W.Frag} {H H' : Hp} (s : Same H H') : ∀ (ds : List PyData) (vs : List V), DpAll K H vs ds → DpAll K H' vs ds
  | [], _, h => by
    cases h
    exact .nil
  | d :: ds, _, h => by
    cases h with
    | cons h1 h2 => exact .cons (dp_same s d _ h1) (dp_sameAll s ds _ h2)
end
/-- a list's cell is no tuple's -/
theorem tup_put {K : PySem.W.Frag} {H : Hp} {D p : Addr} {L xs : List V} {o : HO} (hD : H D = some (.lst L)) (e : SqT K H p xs) : SqT K (upd H D o) p xs := by
  rcases e with (e | ⟨z, e⟩) | e
  · refine Or.inl (Or.inl ?_)
    rw [upd_ne (ne_of e hD (by intro z; cases z))]
    exact e
  · refine Or.inl (Or.inr ⟨z, ?_⟩)
    rw [upd_ne (ne_of e hD (by intro z; cases z))]
    exact e
  · exact Or.inr e
mutual
def noL : PyData → Bool
  | .list _ => false
  | .tuple ds => noLAll ds
  | .dict _ => false
  | _ => true
def noLAll : List PyData → Bool
  | [] => true
  | d :: ds => noL d && noLAll ds
end
mutual
theorem dp_put {K : PySem.W.Frag} {H : Hp} {D : Addr} {L : List V} {o : HO} (hD : H D = some (.lst L)) : ∀ (d : PyData) (v : V), noL d = true → Dp K H v d → Dp K (upd H D o) v d
  | .none, _, _, h => by
    cases h
    exact .non
  | .bool _, _, _, h => by
    cases h
    exact .bl _
  | .int _, _, _, h => by
    cases h
    exact .int _
  | .str _, _, _, h => by
    cases h
    exact .str _
  | .list ds, _, n, h => by
    rw [noL] at n
    cases n
  | .tuple ds, _, n, h => by
    rw [noL] at n
    cases h with
    | tup h1 h2 => exact .tup (tup_put hD h1) (dp_putAll hD ds _ n h2)
  | .dict _, _, _, h => by cases h
theorem dp_putAll {K : PySem.W.Frag} {H : Hp} {D : Addr} {L : List V} {o : HO} (hD : H D = some (.lst L)) : ∀ (ds : List PyData) (vs : List V), noLAll ds = true → DpAll K H vs ds → DpAll K (upd H D o) vs ds
  | [], _, _, h => by
    cases h
    exact .nil
  | d :: ds, _, n, h => by
    rw [noLAll, Bool.and_eq_true] at n
    cases h with
    | cons h1 h2 => exact .cons (dp_put hD d _ n.1 h1) (dp_putAll hD ds _ n.2 h2)
end
end Gd
set_option Elab.async false
set_option linter.all false
set_option maxRecDepth 100000
set_option maxHeartbeats 4000000
namespace K12
open PySem PySem.Spec PyProof.Rows L2 Gd QM
def topS (i : Nat) : Stmt := PySem.Challenge.pw_pointsum_k12_whole_reduced_and_pairs.main.body.getD i (.Pass ⟨0, 0, 0, 0⟩)
/-- what the walk asks of the module's names -/
structure Tx (K : PySem.W.Frag) (mg : Str → Option Value) : Prop where
  gcd : mg "gcd" = some (.builtin "math.gcd")
  int : mg "int" = none
  len : mg "len" = none
  tuple : mg "tuple" = none
  any : mg "any" = none
  abs : mg "abs" = none
  range : mg "range" = none
  enumerate : mg "enumerate" = none
  repr : mg "repr" = none
  c_REDUCED_B2 : ∃ a, (∃ u, mg "REDUCED_B2" = some u ∧ RelV (.ref a) u) ∧ ∀ H, SqT K H a [.int 0, .int 1, .int 4, .int 5, .int (-4), .int (-3)]
theorem iteN {c A B : Prop} [Decidable c] (h : ¬ c) (b : B) : if c then A else B := by
  rw [if_neg h]
  exact b
theorem iteY {c A B : Prop} [Decidable c] (h : c) (b : A) : if c then A else B := by
  rw [if_pos h]
  exact b
/-- the five numbers of a curve -/
structure Cv where
  a1 : Int
  a2 : Int
  a3 : Int
  a4 : Int
  a6 : Int
namespace Cv
variable (c : Cv)
def tup : List V := [.int c.a1, .int c.a2, .int c.a3, .int c.a4, .int c.a6]
def b2 : Int := c.a1 * c.a1 + 4 * c.a2
def b4 : Int := 2 * c.a4 + c.a1 * c.a3
def b6 : Int := c.a3 * c.a3 + 4 * c.a6
def b8 : Int := c.a1 * c.a1 * c.a6 + 4 * c.a2 * c.a6 - c.a1 * c.a3 * c.a4 + c.a2 * c.a3 * c.a3 - c.a4 * c.a4
def c4 : Int := c.b2 * c.b2 - 24 * c.b4
def c6 : Int := 36 * c.b2 * c.b4 - c.b2 * c.b2 * c.b2 - 216 * c.b6
def disc : Int := 9 * c.b2 * c.b4 * c.b6 - c.b2 * c.b2 * c.b8 - 8 * c.b4 * c.b4 * c.b4 - 27 * c.b6 * c.b6
def nums : List V := [.int c.b2, .int c.b4, .int c.b6, .int c.b8, .int c.c4, .int c.c6, .int c.disc]
/-- a drawn curve -/
structure Sm : Prop where
  h1 : B 10 c.a1
  h2 : B 10 c.a2
  h3 : B 10 c.a3
  h4 : B 30 c.a4
  h6 : B 30 c.a6
/-- a curve that is tried -/
structure Md : Prop where
  h1 : B 12 c.a1
  h2 : B 12 c.a2
  h3 : B 12 c.a3
  h4 : B 60 c.a4
  h6 : B 110 c.a6
end Cv
local macro_rules | `(tactic| walk_at "bd") => `(tactic| (repeat (first | assumption | apply B.add | apply B.sub | apply B.mul | apply B.neg | exact B.lit (n := 8) (by decide))))
local macro_rules | `(tactic| walk_at "bu") => `(tactic| (apply B.up; walk_at "bd"; decide))
local macro_rules | `(tactic| walk_at "bnd") => `(tactic| (apply B.mulW; walk_at "bd"; decide))
theorem Cv.Sm.md {c : Cv} (h : c.Sm) : c.Md := ⟨h.h1.up (by decide), h.h2.up (by decide), h.h3.up (by decide), h.h4.up (by decide), h.h6.up (by decide)⟩
theorem Cv.Md.b2 {c : Cv} (h : c.Md) : B 25 c.b2 := by
  obtain ⟨h1, h2, h3, h4, h6⟩ := h
  unfold Cv.b2
  walk_at "bu"
theorem Cv.Md.b4 {c : Cv} (h : c.Md) : B 62 c.b4 := by
  obtain ⟨h1, h2, h3, h4, h6⟩ := h
  have e := h1.mul h3
  unfold Cv.b4
  unfold B at *
  omega
theorem Cv.Md.b6 {c : Cv} (h : c.Md) : B 119 c.b6 := by
  obtain ⟨h1, h2, h3, h4, h6⟩ := h
  unfold Cv.b6
  walk_at "bu"
theorem Cv.Md.b8 {c : Cv} (h : c.Md) : B 140 c.b8 := by
  obtain ⟨h1, h2, h3, h4, h6⟩ := h
  unfold Cv.b8
  walk_at "bu"
theorem Cv.Sm.c4 {c : Cv} (h : c.Sm) : B 43 c.c4 := by
  obtain ⟨h1, h2, h3, h4, h6⟩ := h
  have e2 : B 21 c.b2 := by
    have e := h1.mul h1
    unfold Cv.b2
    unfold B at *
    omega
  have e4 : B 32 c.b4 := by
    have e := h1.mul h3
    unfold Cv.b4
    unfold B at *
    omega
  have e := e2.mul e2
  unfold Cv.c4
  unfold B at *
  omega
theorem Cv.Sm.c6 {c : Cv} (h : c.Sm) : B 80 c.c6 := by
  obtain ⟨h1, h2, h3, h4, h6⟩ := h
  unfold Cv.c6 Cv.b2 Cv.b4 Cv.b6
  walk_at "bu"
section
variable {P : Program} {w : World} {K : PySem.W.Frag} {mg : Str → Option Value} {base : Heap}
/-! ### five -/
def sp_five (K : PySem.W.Frag) : Sp := fun vs H Q _ => ∃ (p : Addr) (c : Cv), vs = [.ref p] ∧ SqT K H p c.tup ∧ Q (.ref p) H
abbrev s_five : Stmt := topS 4
theorem sc_five : FnScope ["curve", "a", "b", "c"] ["curve"] (defScope s_five) := ⟨rfl, rfl, rfl, by decide +kernel, rfl, by decide +kernel, by decide +kernel⟩
theorem k_five (T : Tx K mg) (D : Df K mg "five" s_five ["curve"])  : Kl P w K mg base 1 "five" (sp_five K) := by
  have nd := sc_five.nd
  refine Kl.by_body D sc_five (fun vs H Q E h => ?_) (fun f cdv A outer s H vs Q E hr h => ?_)
  · obtain ⟨_, _, rfl, _⟩ := h
    rfl
  · obtain ⟨p, c, rfl, hx, q⟩ := h
    have hu1 := hu_of hr
    refine ⟨_, (pss_cons (ps_if (pt_cmpR op_eq (pe_callB call_len_seq (by rfl) T.len (by decide +kernel) (pa_cons (pv 0) pa_nil)) pe_int (nomark _)) (pss_cons (ps_asg (pv 0) (pg_tup rfl (pgs_cons (pg_name (i := 1) nd rfl (by first | exact Or.inl rfl | exact Or.inr rfl)) (pgs_cons (pg_name (i := 2) nd rfl (by first | exact Or.inl rfl | exact Or.inr rfl)) (pgs_cons (pg_name (i := 3) nd rfl (by first | exact Or.inl rfl | exact Or.inr rfl)) pgs_nil)))))
      (pss_one (ps_ret (pe_tup (pa_cons pe_int (pa_cons (pv 1) (pa_cons pe_int (pa_cons (pv 2) (pa_cons (pv 3) pa_nil))))))))) pss_nil)
      (pss_one (ps_ret (pv 0)))), ?_⟩
    refine ⟨.ref p, rfl, p, _, rfl, .inr hx, rfl, _, rfl, ?_⟩
    refine iteN (by simp [Cv.tup]) ?_
    exact ⟨.ref p, rfl, q⟩
/-! ### lowest -/
def sp_lowest : PySem.W.Frag → Sp := spCut
abbrev s_lowest : Stmt := topS 2
theorem sc_lowest : FnScope ["n", "d", "shared"] ["n", "d"] (defScope s_lowest) := ⟨rfl, rfl, rfl, by decide +kernel, rfl, by decide +kernel, by decide +kernel⟩
theorem k_lowest (T : Tx K mg) (D : Df K mg "lowest" s_lowest ["n", "d"])  : Kl P w K mg base 1 "lowest" (sp_lowest K) := by
  have nd := sc_lowest.nd
  refine Kl.by_body D sc_lowest (fun vs H Q E h => ?_) (fun f cdv A outer s H vs Q E hr h => ?_)
  · obtain ⟨_, _, rfl, _⟩ := h
    rfl
  · obtain ⟨n, d, rfl, hd, hn, hb, q⟩ := h
    have hu1 := hu_of hr
    refine ⟨_, (pss_cons (ps_set (i := 2) nd rfl (by first | exact Or.inl rfl | exact Or.inr rfl) (pe_callBfun cr_gcd (by rfl) T.gcd (pa_cons (pv 0) (pa_cons (pv 1) pa_nil))))
      (pss_cons (ps_if (pt_cmpR op_lt (pv 1) pe_int (nomark _)) (pss_one (ps_set (i := 2) nd rfl (by first | exact Or.inl rfl | exact Or.inr rfl) (pe_un un_neg (pv 2)))) pss_nil)
      (pss_one (ps_ret (pe_tup (pa_cons (pe_op op_fdivAny (pv 0) (pv 2)) (pa_cons (pe_op op_fdivAny (pv 1) (pv 2)) pa_nil))))))), ?_⟩
    refine ⟨_, rfl, _, rfl, n, d, rfl, ?_⟩
    have h1 : sg n d ≠ 0 := sg_ne hd
    have h2 : CDivAny n (sg n d) := div_any h1 (sg_B hd hb) (by decide)
    have h3 : CDivAny d (sg n d) := div_any h1 (sg_B hd hb) (by decide)
    refine ⟨_, rfl, d, 0, rfl, rfl, _, rfl, ite2 (fun e => ?_) (fun e => ?_)⟩
    · have e' : d < 0 := of_decide_eq_true e
      have es : sg n d = -((Nat.gcd n.natAbs d.natAbs : Nat) : Int) := if_pos e'
      refine ⟨_, rfl, _, rfl, ?_⟩
      refine ⟨_, rfl, _, rfl, n, _, rfl, rfl, es ▸ h2, _, rfl, _, rfl, d, _, rfl, rfl, es ▸ h3, (by show 2 ≤ sizeLine; decide), fun t nt => ?_⟩
      rw [← fq_div hd, es] at q
      exact q t nt
    · have e' : ¬ d < 0 := fun z => e (decide_eq_true z)
      have es : sg n d = ((Nat.gcd n.natAbs d.natAbs : Nat) : Int) := if_neg e'
      refine ⟨_, rfl, _, rfl, n, _, rfl, rfl, es ▸ h2, _, rfl, _, rfl, d, _, rfl, rfl, es ▸ h3, (by show 2 ≤ sizeLine; decide), fun t nt => ?_⟩
      rw [← fq_div hd, es] at q
      exact q t nt
/-! ### the sums -/
def sp_plus : PySem.W.Frag → Sp := spBin (fun a b => True) (fun a b => a + b)
abbrev s_plus : Stmt := topS 6
theorem sc_plus : FnScope ["f", "g"] ["f", "g"] (defScope s_plus) := ⟨rfl, rfl, rfl, by decide +kernel, rfl, by decide +kernel, by decide +kernel⟩
theorem k_plus (T : Tx K mg) (D : Df K mg "plus" s_plus ["f", "g"]) (c_lowest : Kl P w K mg base 1 "lowest" (sp_lowest K)) : Kl P w K mg base 2 "plus" (sp_plus K) := by
  have nd := sc_plus.nd
  refine Kl.by_body D sc_plus (fun vs H Q E h => ?_) (fun f cdv A outer s H vs Q E hr h => ?_)
  · obtain ⟨_, _, _, _, rfl, _⟩ := h
    rfl
  · obtain ⟨f, g, a, b, rfl, hf, hg, ha, hb, h0, q⟩ := h
    have hu1 := hu_of hr
    refine ⟨_, (pss_one (ps_ret (pe_k c_lowest  hr (by decide) (by rfl) (pa_cons (pe_op op_add (pe_op op_mulW (pe_ix ix_tup (pv 0) pe_int (fun _ _ => rfl)) (pe_ix ix_tup (pv 1) pe_int (fun _ _ => rfl))) (pe_op op_mulW (pe_ix ix_tup (pv 1) pe_int (fun _ _ => rfl)) (pe_ix ix_tup (pv 0) pe_int (fun _ _ => rfl)))) (pa_cons (pe_op op_mulW (pe_ix ix_tup (pv 0) pe_int (fun _ _ => rfl)) (pe_ix ix_tup (pv 1) pe_int (fun _ _ => rfl))) pa_nil))))), ?_⟩
    refine ⟨.ref f, rfl, f, _, 0, .int a.num, rfl, rfl, hf, rfl, .ref g, rfl, g, _, 1, .int b.den, rfl, rfl, hg, rfl, _, _, rfl, rfl, (B.mulW ha.n hb.d (by decide)), .ref g, rfl, g, _, 0, .int b.num, rfl, rfl, hg, rfl, .ref f, rfl, f, _, 1, .int a.den, rfl, rfl, hf, rfl, _, _, rfl, rfl, (B.mulW hb.n ha.d (by decide)), _, _, rfl, rfl, .ref f, rfl, f, _, 1, .int a.den, rfl, rfl, hf, rfl, .ref g, rfl, g, _, 1, .int b.den, rfl, rfl, hg, rfl, _, _, rfl, rfl, (B.mulW ha.d hb.d (by decide)), _, _, rfl, (mul_ne (den_ne a) (den_ne b)), ((B.mul ha.n hb.d).add (B.mul hb.n ha.d)).up (by decide), (B.mul ha.d hb.d).up (by decide), fun t nt => ?_⟩
    rw [fr_add a b]
    exact q t nt
def sp_times : PySem.W.Frag → Sp := spBin (fun a b => True) (fun a b => a * b)
abbrev s_times : Stmt := topS 7
theorem sc_times : FnScope ["f", "g"] ["f", "g"] (defScope s_times) := ⟨rfl, rfl, rfl, by decide +kernel, rfl, by decide +kernel, by decide +kernel⟩
theorem k_times (T : Tx K mg) (D : Df K mg "times" s_times ["f", "g"]) (c_lowest : Kl P w K mg base 1 "lowest" (sp_lowest K)) : Kl P w K mg base 2 "times" (sp_times K) := by
  have nd := sc_times.nd
  refine Kl.by_body D sc_times (fun vs H Q E h => ?_) (fun f cdv A outer s H vs Q E hr h => ?_)
  · obtain ⟨_, _, _, _, rfl, _⟩ := h
    rfl
  · obtain ⟨f, g, a, b, rfl, hf, hg, ha, hb, h0, q⟩ := h
    have hu1 := hu_of hr
    refine ⟨_, (pss_one (ps_ret (pe_k c_lowest  hr (by decide) (by rfl) (pa_cons (pe_op op_mulW (pe_ix ix_tup (pv 0) pe_int (fun _ _ => rfl)) (pe_ix ix_tup (pv 1) pe_int (fun _ _ => rfl))) (pa_cons (pe_op op_mulW (pe_ix ix_tup (pv 0) pe_int (fun _ _ => rfl)) (pe_ix ix_tup (pv 1) pe_int (fun _ _ => rfl))) pa_nil))))), ?_⟩
    refine ⟨.ref f, rfl, f, _, 0, .int a.num, rfl, rfl, hf, rfl, .ref g, rfl, g, _, 0, .int b.num, rfl, rfl, hg, rfl, _, _, rfl, rfl, (B.mulW ha.n hb.n (by decide)), .ref f, rfl, f, _, 1, .int a.den, rfl, rfl, hf, rfl, .ref g, rfl, g, _, 1, .int b.den, rfl, rfl, hg, rfl, _, _, rfl, rfl, (B.mulW ha.d hb.d (by decide)), _, _, rfl, (mul_ne (den_ne a) (den_ne b)), (B.mul ha.n hb.n).up (by decide), (B.mul ha.d hb.d).up (by decide), fun t nt => ?_⟩
    rw [fr_mul a b]
    exact q t nt
def sp_over : PySem.W.Frag → Sp := spBin (fun a b => b ≠ 0) (fun a b => a / b)
abbrev s_over : Stmt := topS 8
theorem sc_over : FnScope ["f", "g"] ["f", "g"] (defScope s_over) := ⟨rfl, rfl, rfl, by decide +kernel, rfl, by decide +kernel, by decide +kernel⟩
theorem k_over (T : Tx K mg) (D : Df K mg "over" s_over ["f", "g"]) (c_lowest : Kl P w K mg base 1 "lowest" (sp_lowest K)) : Kl P w K mg base 2 "over" (sp_over K) := by
  have nd := sc_over.nd
  refine Kl.by_body D sc_over (fun vs H Q E h => ?_) (fun f cdv A outer s H vs Q E hr h => ?_)
  · obtain ⟨_, _, _, _, rfl, _⟩ := h
    rfl
  · obtain ⟨f, g, a, b, rfl, hf, hg, ha, hb, h0, q⟩ := h
    have hu1 := hu_of hr
    refine ⟨_, (pss_one (ps_ret (pe_k c_lowest  hr (by decide) (by rfl) (pa_cons (pe_op op_mulW (pe_ix ix_tup (pv 0) pe_int (fun _ _ => rfl)) (pe_ix ix_tup (pv 1) pe_int (fun _ _ => rfl))) (pa_cons (pe_op op_mulW (pe_ix ix_tup (pv 0) pe_int (fun _ _ => rfl)) (pe_ix ix_tup (pv 1) pe_int (fun _ _ => rfl))) pa_nil))))), ?_⟩
    refine ⟨.ref f, rfl, f, _, 0, .int a.num, rfl, rfl, hf, rfl, .ref g, rfl, g, _, 1, .int b.den, rfl, rfl, hg, rfl, _, _, rfl, rfl, (B.mulW ha.n hb.d (by decide)), .ref f, rfl, f, _, 1, .int a.den, rfl, rfl, hf, rfl, .ref g, rfl, g, _, 0, .int b.num, rfl, rfl, hg, rfl, _, _, rfl, rfl, (B.mulW ha.d hb.n (by decide)), _, _, rfl, (mul_ne (den_ne a) (num_ne h0)), (B.mul ha.n hb.d).up (by decide), (B.mul ha.d hb.n).up (by decide), fun t nt => ?_⟩
    rw [fr_div a b h0]
    exact q t nt
/-! ### whole_fraction -/
def sp_whole_fraction (K : PySem.W.Frag) : Sp := fun vs H Q _ => ∃ n : Int, vs = [.int n] ∧ ∀ t, H t = none → Q (.ref t) (upd H t (.tup (fq (n : Rat))))
abbrev s_whole_fraction : Stmt := topS 9
theorem sc_whole_fraction : FnScope ["n"] ["n"] (defScope s_whole_fraction) := ⟨rfl, rfl, rfl, by decide +kernel, rfl, by decide +kernel, by decide +kernel⟩
theorem k_whole_fraction (T : Tx K mg) (D : Df K mg "whole_fraction" s_whole_fraction ["n"])  : Kl P w K mg base 1 "whole_fraction" (sp_whole_fraction K) := by
  have nd := sc_whole_fraction.nd
  refine Kl.by_body D sc_whole_fraction (fun vs H Q E h => ?_) (fun f cdv A outer s H vs Q E hr h => ?_)
  · obtain ⟨_, rfl, _⟩ := h
    rfl
  · obtain ⟨n, rfl, q⟩ := h
    have hu1 := hu_of hr
    refine ⟨_, (pss_one (ps_ret (pe_tup (pa_cons (pv 0) (pa_cons pe_int pa_nil))))), ?_⟩
    refine ⟨_, rfl, (by show 2 ≤ sizeLine; decide), fun t nt => ?_⟩
    rw [fq_int] at q
    exact q t nt
/-! ### total, product -/
theorem foldl_take (op : Rat → Rat → Rat) (e : Rat) (ps : List (Addr × Rat)) {i : Nat} {p : Addr × Rat} (h : ps[i]? = some p) : (ps.take (i + 1)).foldl (fun x p => op x p.2) e = op ((ps.take i).foldl (fun x p => op x p.2) e) p.2 := by
  rw [List.take_succ, List.foldl_append, h]
  rfl
theorem map_get {ps : List (Addr × Rat)} {i : Nat} {x : V} (h : (ps.map fun p => V.ref p.1)[i]? = some x) : ∃ p, ps[i]? = some p ∧ x = .ref p.1 := by
  rw [List.getElem?_map] at h
  cases e : ps[i]? with
  | none =>
    rw [e] at h
    cases h
  | some p =>
    rw [e] at h
    exact ⟨p, rfl, (Option.some.inj h).symm⟩
def sp_total : PySem.W.Frag → Sp := spSum (· + ·) 0
theorem q0 : [V.int 0, V.int 1] = fq 0 := rfl
theorem q1 : [V.int 1, V.int 1] = fq 1 := rfl
theorem _root_.QM.RB.zero : RB 1 (0 : Rat) := ⟨by decide, by decide⟩
theorem _root_.QM.RB.one : RB 1 (1 : Rat) := ⟨by decide, by decide⟩
abbrev s_total : Stmt := topS 10
theorem sc_total : FnScope ["fractions", "result", "f"] ["fractions"] (defScope s_total) := ⟨rfl, rfl, rfl, by decide +kernel, rfl, by decide +kernel, by decide +kernel⟩
theorem k_total (T : Tx K mg) (D : Df K mg "total" s_total ["fractions"]) (c_plus : Kl P w K mg base 2 "plus" (sp_plus K)) : Kl P w K mg base 3 "total" (sp_total K) := by
  have nd := sc_total.nd
  refine Kl.by_body D sc_total (fun vs H Q E h => ?_) (fun f cdv A outer s H vs Q E hr h => ?_)
  · obtain ⟨_, _, _, rfl, _⟩ := h
    rfl
  · obtain ⟨l, ps, m, rfl, hx, hp, hl, q⟩ := h
    have hu1 := hu_of hr
    refine ⟨_, (pss_cons (ps_set (i := 1) nd rfl (by first | exact Or.inl rfl | exact Or.inr rfl) (pe_tup (pa_cons pe_int (pa_cons pe_int pa_nil))))
      (pss_cons (ps_for PassesOwn.never rfl (pi_list (pv 0)) (pg_name (i := 2) nd rfl (by first | exact Or.inl rfl | exact Or.inr rfl)) (pss_one (ps_set (i := 1) nd rfl (by first | exact Or.inl rfl | exact Or.inr rfl) (pe_k c_plus  hr (by decide) (by rfl) (pa_cons (pv 1) (pa_cons (pv 2) pa_nil))))))
      (pss_one (ps_ret (pv 1))))), ?_⟩
    refine ⟨(by show 2 ≤ sizeLine; decide), fun r nr => ?_⟩
    rw [q0]
    have s1 := Same.new (H := H) (p := r) (o := .tup (fq 0)) nr
    have g1 : upd H r (.tup (fq 0)) r = some (.tup (fq 0)) := upd_same
    generalize upd H r (.tup (fq 0)) = H1 at s1 g1 ⊢
    refine ⟨_, rfl, l, rfl, ⟨_, s1.seq hx⟩, for_list (K := K) (a := l) (xs := ps.map fun p => .ref p.1) (fun i σ H2 => Same H H2 ∧ ∃ (r : Addr) (v : Option V), σ = [some (.ref l), some (.ref r), v] ∧ H r = none ∧ H2 r = some (.tup (fq ((ps.take i).foldl (fun x p => x + p.2) 0))) ∧ RB (i * (m + 1) + 1) ((ps.take i).foldl (fun x p => x + p.2) 0)) ⟨s1, r, none, rfl, nr, g1, RB.zero.up (by omega)⟩ (fun i σ H2 _ z => z.1.seq hx) ?_ ?_⟩
    · rintro i x σ H2 hi ⟨s2, r2, v, rfl, n2, g2, b2⟩
      obtain ⟨p, hpi, rfl⟩ := map_get hi
      obtain ⟨h1, h2⟩ := hp p (List.mem_of_getElem? hpi)
      have hi2 : i < ps.length := (List.getElem?_eq_some_iff.mp hpi).1
      have hsz : (i + 1) * (m + 1) ≤ 3900 := Nat.le_trans (Nat.mul_le_mul_right _ hi2) hl
      rw [Nat.add_mul, Nat.one_mul] at hsz
      refine ⟨_, rfl, _, rfl, r2, p.1, _, _, rfl, tup_of g2, Same.tup s2 h1, b2.up (by omega), h2.up (by omega), trivial, fun t nt => ?_⟩
      refine ⟨Same.put s2 (s2.free nt), t, _, rfl, s2.free nt, ?_, ?_⟩
      · rw [upd_same, foldl_take _ _ _ hpi]
      · rw [foldl_take (fun a b => a + b) 0 _ hpi]
        exact (b2.add h2).up (by rw [Nat.add_mul]; omega)
    · rintro σ H2 ⟨s2, r2, v, rfl, n2, g2, b2⟩
      rw [List.length_map, List.take_length] at g2
      rw [List.length_map, List.take_length] at b2
      exact ⟨_, rfl, q _ r2 s2 n2 g2 b2⟩
def sp_product : PySem.W.Frag → Sp := spSum (· * ·) 1
abbrev s_product : Stmt := topS 11
theorem sc_product : FnScope ["fractions", "result", "f"] ["fractions"] (defScope s_product) := ⟨rfl, rfl, rfl, by decide +kernel, rfl, by decide +kernel, by decide +kernel⟩
theorem k_product (T : Tx K mg) (D : Df K mg "product" s_product ["fractions"]) (c_times : Kl P w K mg base 2 "times" (sp_times K)) : Kl P w K mg base 3 "product" (sp_product K) := by
  have nd := sc_product.nd
  refine Kl.by_body D sc_product (fun vs H Q E h => ?_) (fun f cdv A outer s H vs Q E hr h => ?_)
  · obtain ⟨_, _, _, rfl, _⟩ := h
    rfl
  · obtain ⟨l, ps, m, rfl, hx, hp, hl, q⟩ := h
    have hu1 := hu_of hr
    refine ⟨_, (pss_cons (ps_set (i := 1) nd rfl (by first | exact Or.inl rfl | exact Or.inr rfl) (pe_tup (pa_cons pe_int (pa_cons pe_int pa_nil))))
      (pss_cons (ps_for PassesOwn.never rfl (pi_list (pv 0)) (pg_name (i := 2) nd rfl (by first | exact Or.inl rfl | exact Or.inr rfl)) (pss_one (ps_set (i := 1) nd rfl (by first | exact Or.inl rfl | exact Or.inr rfl) (pe_k c_times  hr (by decide) (by rfl) (pa_cons (pv 1) (pa_cons (pv 2) pa_nil))))))
      (pss_one (ps_ret (pv 1))))), ?_⟩
    refine ⟨(by show 2 ≤ sizeLine; decide), fun r nr => ?_⟩
    rw [q1]
    have s1 := Same.new (H := H) (p := r) (o := .tup (fq 1)) nr
    have g1 : upd H r (.tup (fq 1)) r = some (.tup (fq 1)) := upd_same
    generalize upd H r (.tup (fq 1)) = H1 at s1 g1 ⊢
    refine ⟨_, rfl, l, rfl, ⟨_, s1.seq hx⟩, for_list (K := K) (a := l) (xs := ps.map fun p => .ref p.1) (fun i σ H2 => Same H H2 ∧ ∃ (r : Addr) (v : Option V), σ = [some (.ref l), some (.ref r), v] ∧ H r = none ∧ H2 r = some (.tup (fq ((ps.take i).foldl (fun x p => x * p.2) 1))) ∧ RB (i * (m + 1) + 1) ((ps.take i).foldl (fun x p => x * p.2) 1)) ⟨s1, r, none, rfl, nr, g1, RB.one.up (by omega)⟩ (fun i σ H2 _ z => z.1.seq hx) ?_ ?_⟩
    · rintro i x σ H2 hi ⟨s2, r2, v, rfl, n2, g2, b2⟩
      obtain ⟨p, hpi, rfl⟩ := map_get hi
      obtain ⟨h1, h2⟩ := hp p (List.mem_of_getElem? hpi)
      have hi2 : i < ps.length := (List.getElem?_eq_some_iff.mp hpi).1
      have hsz : (i + 1) * (m + 1) ≤ 3900 := Nat.le_trans (Nat.mul_le_mul_right _ hi2) hl
      rw [Nat.add_mul, Nat.one_mul] at hsz
      refine ⟨_, rfl, _, rfl, r2, p.1, _, _, rfl, tup_of g2, Same.tup s2 h1, b2.up (by omega), h2.up (by omega), trivial, fun t nt => ?_⟩
      refine ⟨Same.put s2 (s2.free nt), t, _, rfl, s2.free nt, ?_, ?_⟩
      · rw [upd_same, foldl_take _ _ _ hpi]
      · rw [foldl_take (fun a b => a * b) 1 _ hpi]
        exact (b2.mul h2).up (by rw [Nat.add_mul]; omega)
    · rintro σ H2 ⟨s2, r2, v, rfl, n2, g2, b2⟩
      rw [List.length_map, List.take_length] at g2
      rw [List.length_map, List.take_length] at b2
      exact ⟨_, rfl, q _ r2 s2 n2 g2 b2⟩
end
end K12
set_option Elab.async false
set_option linter.all false
set_option maxRecDepth 100000
set_option maxHeartbeats 4000000
namespace K12
open PySem PySem.Spec PyProof.Rows L2 Gd QM
local macro_rules | `(tactic| walk_at "bd") => `(tactic| (repeat (first | assumption | apply B.add | apply B.sub | apply B.mul | apply B.neg | exact B.lit (n := 8) (by decide))))
local macro_rules | `(tactic| walk_at "bu") => `(tactic| (apply B.up; walk_at "bd"; decide))
local macro_rules | `(tactic| walk_at "bnd") => `(tactic| (apply B.mulW; walk_at "bd"; decide))
local macro_rules | `(tactic| walk_at "pw") => `(tactic| exact B.up (n := 64) (by assumption) (by decide))
theorem abs_eq (i : Int) : (if i < 0 then -i else i) = (i.natAbs : Int) := by
  split <;> omega
section
variable {P : Program} {w : World} {K : PySem.W.Frag} {mg : Str → Option Value} {base : Heap}
/-! ### the law's common factor -/
def sp_law_common (K : PySem.W.Frag) : Sp := fun vs H Q _ => ∃ a b : Int, vs = [.int a, .int b] ∧ B 8200 a ∧ B 8200 b ∧ Q (.int ((Nat.gcd a.natAbs b.natAbs : Nat) : Int)) H
theorem gcd_turn {x y : Int} (h1 : 0 ≤ x) (h2 : 0 ≤ y) (h0 : y ≠ 0) : 0 ≤ x - x.fdiv y * y ∧ (x - x.fdiv y * y).natAbs < y.natAbs ∧ Nat.gcd y.natAbs (x - x.fdiv y * y).natAbs = Nat.gcd x.natAbs y.natAbs := by
  have e : x - x.fdiv y * y = x % y := by
    rw [Int.fdiv_eq_ediv_of_nonneg x h2, Int.emod_def, Int.mul_comm]
  have h3 : 0 ≤ x % y := Int.emod_nonneg x h0
  have h4 : x % y < y := Int.emod_lt_of_pos x (by omega)
  rw [e]
  refine ⟨h3, by omega, ?_⟩
  have e2 : (x % y).natAbs = x.natAbs % y.natAbs := by
    rw [Int.natAbs_emod_of_nonneg h1]
  rw [e2, Nat.gcd_comm y.natAbs, ← Nat.gcd_rec y.natAbs x.natAbs, Nat.gcd_comm]
abbrev s__law_common : Stmt := topS 26
theorem sc__law_common : FnScope ["a", "b"] ["a", "b"] (defScope s__law_common) := ⟨rfl, rfl, rfl, by decide +kernel, rfl, by decide +kernel, by decide +kernel⟩
theorem k_law_common (T : Tx K mg) (D : Df K mg "_law_common" s__law_common ["a", "b"])  : Kl P w K mg base 1 "_law_common" (sp_law_common K) := by
  have nd := sc__law_common.nd
  refine Kl.by_body D sc__law_common (fun vs H Q E h => ?_) (fun f cdv A outer s H vs Q E hr h => ?_)
  · obtain ⟨_, _, rfl, _⟩ := h
    rfl
  · obtain ⟨a, b, rfl, ha, hb, q⟩ := h
    have hu1 := hu_of hr
    refine ⟨_, (pss_cons (ps_par (i := 0) (j := 1) (by rfl) nd rfl rfl (by decide) rfl rfl (pa_cons (pe_callB call_abs (by rfl) T.abs (by decide +kernel) (pa_cons (pv 0) pa_nil)) (pa_cons (pe_callB call_abs (by rfl) T.abs (by decide +kernel) (pa_cons (pv 1) pa_nil)) pa_nil)) (by rfl))
      (pss_cons (ps_while PassesOwn.never (pt_cmpR op_ne (pv 1) pe_int (nomark _)) (pss_one (ps_par (i := 0) (j := 1) (by rfl) nd rfl rfl (by decide) rfl rfl (pa_cons (pv 1) (pa_cons (pe_op op_sub (pv 0) (pe_op op_mulW (pe_op op_fdivAny (pv 0) (pv 1)) (pv 1))) pa_nil)) (by rfl))))
      (pss_one (ps_ret (pv 0))))), ?_⟩
    refine ⟨_, rfl, a, rfl, _, rfl, b, rfl, _, _, rfl, ?_⟩
    rw [abs_eq, abs_eq]
    first | refine sigN [some (.int ((a.natAbs : Int))), some (.int ((b.natAbs : Int)))] (by rfl) ?_ | refine sig [some (.int ((a.natAbs : Int))), some (.int ((b.natAbs : Int)))] (by rfl) ?_
    have na : B 8200 (a.natAbs : Int) := by
      unfold B at *
      omega
    have nb : B 8200 (b.natAbs : Int) := by
      unfold B at *
      omega
    refine while_by (fun σ H2 => ∃ x y : Int, σ = [some (.int x), some (.int y)] ∧ H2 = H ∧ 0 ≤ x ∧ 0 ≤ y ∧ Nat.gcd x.natAbs y.natAbs = Nat.gcd a.natAbs b.natAbs ∧ B 8200 x ∧ B 8200 y)
      (fun σ _ => match σ with | [_, some (.int y)] => y.natAbs | _ => 0) ⟨_, _, rfl, rfl, by omega, by omega, by rw [Int.natAbs_natCast, Int.natAbs_natCast], na, nb⟩ ?_ ?_
    · rintro σ H2 ⟨x, y, rfl, rfl, h1, h2, h3, h4, h5⟩
      refine ⟨_, rfl, rfl, _, rfl, ?_⟩
      rw [dec_int]
      by_cases h0 : y = 0
      · subst h0
        refine iteN (by simp) ?_
        refine ⟨_, rfl, ?_⟩
        rw [← h3] at q
        have e : ((Nat.gcd x.natAbs (0 : Int).natAbs : Nat) : Int) = x := by
          rw [show (0 : Int).natAbs = 0 from rfl, Nat.gcd_zero_right]
          omega
        rw [e] at q
        exact q
      · refine iteY (by simp [h0]) ?_
        obtain ⟨g1, g2, g3⟩ := gcd_turn h1 h2 h0
        have d1 : B 8200 (x.fdiv y) := by
          rw [Int.fdiv_eq_ediv_of_nonneg x h2]
          have e1 : 0 ≤ x / y := Int.ediv_nonneg h1 h2
          have e2 : x / y ≤ x := Int.ediv_le_self y h1
          unfold B at *
          omega
        refine ⟨_, rfl, _, rfl, _, rfl, _, rfl, x, y, rfl, rfl, div_any h0 h5 (by decide), _, rfl, _, _, rfl, rfl, d1.mulW h5 (by decide), _, _, rfl, rfl, _, _, rfl, ?_⟩
        have g4 : B 8200 (x - x.fdiv y * y) := by
          unfold B at *
          omega
        exact ⟨⟨_, _, rfl, rfl, h2, g1, g3.trans h3, h5, g4⟩, g2⟩
    · rintro σ H2 Q1 Q2 i ⟨v, hv, hs, k, e, z⟩
      exact ⟨v, hv, hs, k, e, i _ _ z⟩
/-! ### cut -/
def sp_law_cut : PySem.W.Frag → Sp := spCut
abbrev s__law_cut : Stmt := topS 27
theorem sc__law_cut : FnScope ["n", "d", "part"] ["n", "d"] (defScope s__law_cut) := ⟨rfl, rfl, rfl, by decide +kernel, rfl, by decide +kernel, by decide +kernel⟩
theorem k_law_cut (T : Tx K mg) (D : Df K mg "_law_cut" s__law_cut ["n", "d"]) (c_law_common : Kl P w K mg base 1 "_law_common" (sp_law_common K)) : Kl P w K mg base 2 "_law_cut" (sp_law_cut K) := by
  have nd := sc__law_cut.nd
  refine Kl.by_body D sc__law_cut (fun vs H Q E h => ?_) (fun f cdv A outer s H vs Q E hr h => ?_)
  · obtain ⟨_, _, rfl, _⟩ := h
    rfl
  · obtain ⟨n, d, rfl, h0, hn, hd, q⟩ := h
    have hu1 := hu_of hr
    refine ⟨_, (pss_cons (ps_set (i := 2) nd rfl (by first | exact Or.inl rfl | exact Or.inr rfl) (pe_k c_law_common  hr (by decide) (by rfl) (pa_cons (pv 0) (pa_cons (pv 1) pa_nil))))
      (pss_cons (ps_set (i := 2) nd rfl (by first | exact Or.inl rfl | exact Or.inr rfl) (pe_ifExp (pt_cmpR op_gt (pv 1) pe_int (nomark _)) (pv 2) (pe_un un_neg (pv 2))))
      (pss_one (ps_ret (pe_tup (pa_cons (pe_op op_fdivAny (pv 0) (pv 2)) (pa_cons (pe_op op_fdivAny (pv 1) (pv 2)) pa_nil))))))), ?_⟩
    refine ⟨_, rfl, _, rfl, n, d, rfl, hn, hd, ?_⟩
    have hs : sg n d ≠ 0 := sg_ne h0
    have c1 : CDivAny n (sg n d) := div_any hs (sg_B h0 hd) (by decide)
    have c2 : CDivAny d (sg n d) := div_any hs (sg_B h0 hd) (by decide)
    rw [← fq_div h0] at q
    refine ⟨_, rfl, _, _, rfl, rfl, _, rfl, ite2 (fun e => ?_) (fun e => ?_)⟩
    · have e' : 0 < d := of_decide_eq_true e
      have es : sg n d = ((Nat.gcd n.natAbs d.natAbs : Nat) : Int) := if_neg (by omega)
      refine ⟨_, rfl, ?_⟩
      refine ⟨_, rfl, _, rfl, n, _, rfl, rfl, es ▸ c1, _, rfl, _, rfl, d, _, rfl, rfl, es ▸ c2, (by show 2 ≤ sizeLine; decide), fun t nt => ?_⟩
      rw [es] at q
      exact q t nt
    · have e' : ¬ 0 < d := fun z => e (decide_eq_true z)
      have es : sg n d = -((Nat.gcd n.natAbs d.natAbs : Nat) : Int) := if_pos (by omega)
      refine ⟨_, rfl, _, rfl, ?_⟩
      refine ⟨_, rfl, _, rfl, n, _, rfl, rfl, es ▸ c1, _, rfl, _, rfl, d, _, rfl, rfl, es ▸ c2, (by show 2 ≤ sizeLine; decide), fun t nt => ?_⟩
      rw [es] at q
      exact q t nt
/-! ### the law's sums -/
def sp_law_plus : PySem.W.Frag → Sp := spBin (fun a b => True) (fun a b => a + b)
abbrev s__law_plus : Stmt := topS 28
theorem sc__law_plus : FnScope ["f", "g"] ["f", "g"] (defScope s__law_plus) := ⟨rfl, rfl, rfl, by decide +kernel, rfl, by decide +kernel, by decide +kernel⟩
theorem k_law_plus (T : Tx K mg) (D : Df K mg "_law_plus" s__law_plus ["f", "g"]) (c_law_cut : Kl P w K mg base 2 "_law_cut" (sp_law_cut K)) : Kl P w K mg base 3 "_law_plus" (sp_law_plus K) := by
  have nd := sc__law_plus.nd
  refine Kl.by_body D sc__law_plus (fun vs H Q E h => ?_) (fun f cdv A outer s H vs Q E hr h => ?_)
  · obtain ⟨_, _, _, _, rfl, _⟩ := h
    rfl
  · obtain ⟨f, g, a, b, rfl, hf, hg, ha, hb, h0, q⟩ := h
    have hu1 := hu_of hr
    refine ⟨_, (pss_one (ps_ret (pe_k c_law_cut  hr (by decide) (by rfl) (pa_cons (pe_op op_add (pe_op op_mulW (pe_ix ix_tup (pv 0) pe_int (fun _ _ => rfl)) (pe_ix ix_tup (pv 1) pe_int (fun _ _ => rfl))) (pe_op op_mulW (pe_ix ix_tup (pv 1) pe_int (fun _ _ => rfl)) (pe_ix ix_tup (pv 0) pe_int (fun _ _ => rfl)))) (pa_cons (pe_op op_mulW (pe_ix ix_tup (pv 0) pe_int (fun _ _ => rfl)) (pe_ix ix_tup (pv 1) pe_int (fun _ _ => rfl))) pa_nil))))), ?_⟩
    refine ⟨.ref f, rfl, f, _, 0, .int a.num, rfl, rfl, hf, rfl, .ref g, rfl, g, _, 1, .int b.den, rfl, rfl, hg, rfl, _, _, rfl, rfl, (B.mulW ha.n hb.d (by decide)), .ref g, rfl, g, _, 0, .int b.num, rfl, rfl, hg, rfl, .ref f, rfl, f, _, 1, .int a.den, rfl, rfl, hf, rfl, _, _, rfl, rfl, (B.mulW hb.n ha.d (by decide)), _, _, rfl, rfl, .ref f, rfl, f, _, 1, .int a.den, rfl, rfl, hf, rfl, .ref g, rfl, g, _, 1, .int b.den, rfl, rfl, hg, rfl, _, _, rfl, rfl, (B.mulW ha.d hb.d (by decide)), _, _, rfl, (mul_ne (den_ne a) (den_ne b)), ((B.mul ha.n hb.d).add (B.mul hb.n ha.d)).up (by decide), (B.mul ha.d hb.d).up (by decide), fun t nt => ?_⟩
    rw [fr_add a b]
    exact q t nt
def sp_law_less : PySem.W.Frag → Sp := spBin (fun a b => True) (fun a b => a - b)
abbrev s__law_less : Stmt := topS 29
theorem sc__law_less : FnScope ["f", "g"] ["f", "g"] (defScope s__law_less) := ⟨rfl, rfl, rfl, by decide +kernel, rfl, by decide +kernel, by decide +kernel⟩
theorem k_law_less (T : Tx K mg) (D : Df K mg "_law_less" s__law_less ["f", "g"]) (c_law_cut : Kl P w K mg base 2 "_law_cut" (sp_law_cut K)) : Kl P w K mg base 3 "_law_less" (sp_law_less K) := by
  have nd := sc__law_less.nd
  refine Kl.by_body D sc__law_less (fun vs H Q E h => ?_) (fun f cdv A outer s H vs Q E hr h => ?_)
  · obtain ⟨_, _, _, _, rfl, _⟩ := h
    rfl
  · obtain ⟨f, g, a, b, rfl, hf, hg, ha, hb, h0, q⟩ := h
    have hu1 := hu_of hr
    refine ⟨_, (pss_one (ps_ret (pe_k c_law_cut  hr (by decide) (by rfl) (pa_cons (pe_op op_sub (pe_op op_mulW (pe_ix ix_tup (pv 0) pe_int (fun _ _ => rfl)) (pe_ix ix_tup (pv 1) pe_int (fun _ _ => rfl))) (pe_op op_mulW (pe_ix ix_tup (pv 1) pe_int (fun _ _ => rfl)) (pe_ix ix_tup (pv 0) pe_int (fun _ _ => rfl)))) (pa_cons (pe_op op_mulW (pe_ix ix_tup (pv 0) pe_int (fun _ _ => rfl)) (pe_ix ix_tup (pv 1) pe_int (fun _ _ => rfl))) pa_nil))))), ?_⟩
    refine ⟨.ref f, rfl, f, _, 0, .int a.num, rfl, rfl, hf, rfl, .ref g, rfl, g, _, 1, .int b.den, rfl, rfl, hg, rfl, _, _, rfl, rfl, (B.mulW ha.n hb.d (by decide)), .ref g, rfl, g, _, 0, .int b.num, rfl, rfl, hg, rfl, .ref f, rfl, f, _, 1, .int a.den, rfl, rfl, hf, rfl, _, _, rfl, rfl, (B.mulW hb.n ha.d (by decide)), _, _, rfl, rfl, .ref f, rfl, f, _, 1, .int a.den, rfl, rfl, hf, rfl, .ref g, rfl, g, _, 1, .int b.den, rfl, rfl, hg, rfl, _, _, rfl, rfl, (B.mulW ha.d hb.d (by decide)), _, _, rfl, (mul_ne (den_ne a) (den_ne b)), ((B.mul ha.n hb.d).sub (B.mul hb.n ha.d)).up (by decide), (B.mul ha.d hb.d).up (by decide), fun t nt => ?_⟩
    rw [fr_sub a b]
    exact q t nt
def sp_law_by : PySem.W.Frag → Sp := spBin (fun a b => True) (fun a b => a * b)
abbrev s__law_by : Stmt := topS 30
theorem sc__law_by : FnScope ["f", "g"] ["f", "g"] (defScope s__law_by) := ⟨rfl, rfl, rfl, by decide +kernel, rfl, by decide +kernel, by decide +kernel⟩
theorem k_law_by (T : Tx K mg) (D : Df K mg "_law_by" s__law_by ["f", "g"]) (c_law_cut : Kl P w K mg base 2 "_law_cut" (sp_law_cut K)) : Kl P w K mg base 3 "_law_by" (sp_law_by K) := by
  have nd := sc__law_by.nd
  refine Kl.by_body D sc__law_by (fun vs H Q E h => ?_) (fun f cdv A outer s H vs Q E hr h => ?_)
  · obtain ⟨_, _, _, _, rfl, _⟩ := h
    rfl
  · obtain ⟨f, g, a, b, rfl, hf, hg, ha, hb, h0, q⟩ := h
    have hu1 := hu_of hr
    refine ⟨_, (pss_one (ps_ret (pe_k c_law_cut  hr (by decide) (by rfl) (pa_cons (pe_op op_mulW (pe_ix ix_tup (pv 0) pe_int (fun _ _ => rfl)) (pe_ix ix_tup (pv 1) pe_int (fun _ _ => rfl))) (pa_cons (pe_op op_mulW (pe_ix ix_tup (pv 0) pe_int (fun _ _ => rfl)) (pe_ix ix_tup (pv 1) pe_int (fun _ _ => rfl))) pa_nil))))), ?_⟩
    refine ⟨.ref f, rfl, f, _, 0, .int a.num, rfl, rfl, hf, rfl, .ref g, rfl, g, _, 0, .int b.num, rfl, rfl, hg, rfl, _, _, rfl, rfl, (B.mulW ha.n hb.n (by decide)), .ref f, rfl, f, _, 1, .int a.den, rfl, rfl, hf, rfl, .ref g, rfl, g, _, 1, .int b.den, rfl, rfl, hg, rfl, _, _, rfl, rfl, (B.mulW ha.d hb.d (by decide)), _, _, rfl, (mul_ne (den_ne a) (den_ne b)), (B.mul ha.n hb.n).up (by decide), (B.mul ha.d hb.d).up (by decide), fun t nt => ?_⟩
    rw [fr_mul a b]
    exact q t nt
def sp_law_over : PySem.W.Frag → Sp := spBin (fun a b => b ≠ 0) (fun a b => a / b)
abbrev s__law_over : Stmt := topS 31
theorem sc__law_over : FnScope ["f", "g"] ["f", "g"] (defScope s__law_over) := ⟨rfl, rfl, rfl, by decide +kernel, rfl, by decide +kernel, by decide +kernel⟩
theorem k_law_over (T : Tx K mg) (D : Df K mg "_law_over" s__law_over ["f", "g"]) (c_law_cut : Kl P w K mg base 2 "_law_cut" (sp_law_cut K)) : Kl P w K mg base 3 "_law_over" (sp_law_over K) := by
  have nd := sc__law_over.nd
  refine Kl.by_body D sc__law_over (fun vs H Q E h => ?_) (fun f cdv A outer s H vs Q E hr h => ?_)
  · obtain ⟨_, _, _, _, rfl, _⟩ := h
    rfl
  · obtain ⟨f, g, a, b, rfl, hf, hg, ha, hb, h0, q⟩ := h
    have hu1 := hu_of hr
    refine ⟨_, (pss_one (ps_ret (pe_k c_law_cut  hr (by decide) (by rfl) (pa_cons (pe_op op_mulW (pe_ix ix_tup (pv 0) pe_int (fun _ _ => rfl)) (pe_ix ix_tup (pv 1) pe_int (fun _ _ => rfl))) (pa_cons (pe_op op_mulW (pe_ix ix_tup (pv 0) pe_int (fun _ _ => rfl)) (pe_ix ix_tup (pv 1) pe_int (fun _ _ => rfl))) pa_nil))))), ?_⟩
    refine ⟨.ref f, rfl, f, _, 0, .int a.num, rfl, rfl, hf, rfl, .ref g, rfl, g, _, 1, .int b.den, rfl, rfl, hg, rfl, _, _, rfl, rfl, (B.mulW ha.n hb.d (by decide)), .ref f, rfl, f, _, 1, .int a.den, rfl, rfl, hf, rfl, .ref g, rfl, g, _, 0, .int b.num, rfl, rfl, hg, rfl, _, _, rfl, rfl, (B.mulW ha.d hb.n (by decide)), _, _, rfl, (mul_ne (den_ne a) (num_ne h0)), (B.mul ha.n hb.d).up (by decide), (B.mul ha.d hb.n).up (by decide), fun t nt => ?_⟩
    rw [fr_div a b h0]
    exact q t nt
/-! ### the numbers of a curve -/
theorem Cv.nums_c6 (c : Cv) : c.c6 = 36 * c.b2 * c.b4 - c.b2 ^ 3 - 216 * c.b6 := by
  unfold Cv.c6
  grind
theorem Cv.nums_d (c : Cv) : c.disc = 9 * c.b2 * c.b4 * c.b6 - c.b2 * c.b2 * c.b8 - 8 * c.b4 ^ 3 - 27 * c.b6 * c.b6 := by
  unfold Cv.disc
  grind
theorem Cv.nums_b8 (c : Cv) : c.b8 = c.a1 * c.a1 * c.a6 + 4 * c.a2 * c.a6 - c.a1 * c.a3 * c.a4 + c.a2 * c.a3 * c.a3 - c.a4 * c.a4 := rfl
def sp_law_numbers (K : PySem.W.Frag) : Sp := fun vs H Q _ => ∃ (p : Addr) (c : Cv), vs = [.ref p] ∧ SqT K H p c.tup ∧ c.Md ∧ ∀ t, H t = none → Q (.ref t) (upd H t (.tup c.nums))
abbrev s__law_numbers : Stmt := topS 32
theorem sc__law_numbers : FnScope ["five_v", "a", "b", "c", "d", "e", "two", "four", "six", "eight", "c4", "c6", "disc"] ["five_v"] (defScope s__law_numbers) := ⟨rfl, rfl, rfl, by decide +kernel, rfl, by decide +kernel, by decide +kernel⟩
theorem k_law_numbers (T : Tx K mg) (D : Df K mg "_law_numbers" s__law_numbers ["five_v"])  : Kl P w K mg base 1 "_law_numbers" (sp_law_numbers K) := by
  have nd := sc__law_numbers.nd
  refine Kl.by_body D sc__law_numbers (fun vs H Q E h => ?_) (fun f cdv A outer s H vs Q E hr h => ?_)
  · obtain ⟨_, _, rfl, _⟩ := h
    rfl
  · obtain ⟨p, c, rfl, hx, hm, q⟩ := h
    have hu1 := hu_of hr
    refine ⟨_, (pss_cons (ps_asg (pv 0) (pg_tup rfl (pgs_cons (pg_name (i := 1) nd rfl (by first | exact Or.inl rfl | exact Or.inr rfl)) (pgs_cons (pg_name (i := 2) nd rfl (by first | exact Or.inl rfl | exact Or.inr rfl)) (pgs_cons (pg_name (i := 3) nd rfl (by first | exact Or.inl rfl | exact Or.inr rfl)) (pgs_cons (pg_name (i := 4) nd rfl (by first | exact Or.inl rfl | exact Or.inr rfl)) (pgs_cons (pg_name (i := 5) nd rfl (by first | exact Or.inl rfl | exact Or.inr rfl)) pgs_nil)))))))
      (pss_cons (ps_par (i := 6) (j := 7) (by rfl) nd rfl rfl (by decide) rfl rfl (pa_cons (pe_op op_add (pe_op op_mulW (pv 1) (pv 1)) (pe_op op_mul pe_int (pv 2))) (pa_cons (pe_op op_add (pe_op op_mul pe_int (pv 4)) (pe_op op_mulW (pv 1) (pv 3))) pa_nil)) (by rfl))
      (pss_cons (ps_set (i := 8) nd rfl (by first | exact Or.inl rfl | exact Or.inr rfl) (pe_op op_add (pe_op op_mulW (pv 3) (pv 3)) (pe_op op_mul pe_int (pv 5))))
      (pss_cons (ps_set (i := 9) nd rfl (by first | exact Or.inl rfl | exact Or.inr rfl) (pe_op op_sub (pe_op op_add (pe_op op_mulW (pe_op op_mulW (pv 1) (pv 1)) (pv 5)) (pe_op op_mulW (pe_op op_mul pe_int (pv 2)) (pv 5))) (pe_op op_mulW (pe_op op_mulW (pv 1) (pv 3)) (pv 4))))
      (pss_cons (ps_set (i := 9) nd rfl (by first | exact Or.inl rfl | exact Or.inr rfl) (pe_op op_sub (pe_op op_add (pv 9) (pe_op op_mulW (pe_op op_mulW (pv 2) (pv 3)) (pv 3))) (pe_op op_mulW (pv 4) (pv 4))))
      (pss_cons (ps_par (i := 10) (j := 11) (by rfl) nd rfl rfl (by decide) rfl rfl (pa_cons (pe_op op_sub (pe_op op_mulW (pv 6) (pv 6)) (pe_op op_mul pe_int (pv 7))) (pa_cons (pe_op op_sub (pe_op op_sub (pe_op op_mulW (pe_op op_mul pe_int (pv 6)) (pv 7)) (pe_op op_pow (pv 6) pe_int)) (pe_op op_mul pe_int (pv 8))) pa_nil)) (by rfl))
      (pss_cons (ps_set (i := 12) nd rfl (by first | exact Or.inl rfl | exact Or.inr rfl) (pe_op op_sub (pe_op op_mulW (pe_op op_mulW (pe_op op_mul pe_int (pv 6)) (pv 7)) (pv 8)) (pe_op op_mulW (pe_op op_mulW (pv 6) (pv 6)) (pv 9))))
      (pss_one (ps_ret (pe_tup (pa_cons (pv 6) (pa_cons (pv 7) (pa_cons (pv 8) (pa_cons (pv 9) (pa_cons (pv 10) (pa_cons (pv 11) (pa_cons (pe_op op_sub (pe_op op_sub (pv 12) (pe_op op_mul pe_int (pe_op op_pow (pv 7) pe_int))) (pe_op op_mulW (pe_op op_mul pe_int (pv 8)) (pv 8))) pa_nil))))))))))))))))), ?_⟩
    have e2 := hm.b2
    have e4 := hm.b4
    have e6 := hm.b6
    have e8 := hm.b8
    obtain ⟨h1, h2, h3, h4, h6⟩ := hm
    have p3 : B 133 (c.b2 ^ (3 : Int).toNat) := (e2.pow 3).up (by decide)
    have p4 : B 233 (c.b4 ^ (3 : Int).toNat) := (e4.pow 3).up (by decide)
    refine ⟨.ref p, rfl, p, _, rfl, hx, rfl, _, _, rfl, _, _, rfl, _, _, rfl, _, _, rfl, _, _, rfl, rfl, ?_⟩
    first | refine sigN [some (.ref p), some (.int (c.a1)), some (.int (c.a2)), some (.int (c.a3)), some (.int (c.a4)), some (.int (c.a6)), none, none, none, none, none, none, none] (by rfl) ?_ | refine sig [some (.ref p), some (.int (c.a1)), some (.int (c.a2)), some (.int (c.a3)), some (.int (c.a4)), some (.int (c.a6)), none, none, none, none, none, none, none] (by rfl) ?_
    refine ⟨_, rfl, _, rfl, _, _, rfl, rfl, (by walk_at "bnd"), _, rfl, _, _, rfl, rfl, (Or.inl ⟨by decide, by decide⟩), _, _, rfl, rfl, _, rfl, _, _, rfl, rfl, (Or.inl ⟨by decide, by decide⟩), _, rfl, _, rfl, _, _, rfl, rfl, (by walk_at "bnd"), _, _, rfl, rfl, _, _, rfl, ?_⟩
    first | refine sigN [some (.ref p), some (.int (c.a1)), some (.int (c.a2)), some (.int (c.a3)), some (.int (c.a4)), some (.int (c.a6)), some (.int (c.b2)), some (.int (c.b4)), none, none, none, none, none] (by rfl) ?_ | refine sig [some (.ref p), some (.int (c.a1)), some (.int (c.a2)), some (.int (c.a3)), some (.int (c.a4)), some (.int (c.a6)), some (.int (c.b2)), some (.int (c.b4)), none, none, none, none, none] (by rfl) ?_
    refine ⟨_, rfl, _, rfl, _, _, rfl, rfl, (by walk_at "bnd"), _, rfl, _, _, rfl, rfl, (Or.inl ⟨by decide, by decide⟩), _, _, rfl, rfl, ?_⟩
    first | refine sigN [some (.ref p), some (.int (c.a1)), some (.int (c.a2)), some (.int (c.a3)), some (.int (c.a4)), some (.int (c.a6)), some (.int (c.b2)), some (.int (c.b4)), some (.int (c.b6)), none, none, none, none] (by rfl) ?_ | refine sig [some (.ref p), some (.int (c.a1)), some (.int (c.a2)), some (.int (c.a3)), some (.int (c.a4)), some (.int (c.a6)), some (.int (c.b2)), some (.int (c.b4)), some (.int (c.b6)), none, none, none, none] (by rfl) ?_
    refine ⟨_, rfl, _, rfl, _, _, rfl, rfl, (by walk_at "bnd"), _, rfl, _, _, rfl, rfl, (by walk_at "bnd"), _, rfl, _, _, rfl, rfl, (Or.inl ⟨by decide, by decide⟩), _, rfl, _, _, rfl, rfl, (by walk_at "bnd"), _, _, rfl, rfl, _, rfl, _, rfl, _, _, rfl, rfl, (by walk_at "bnd"), _, rfl, _, _, rfl, rfl, (by walk_at "bnd"), _, _, rfl, rfl, ?_⟩
    first | refine sigN [some (.ref p), some (.int (c.a1)), some (.int (c.a2)), some (.int (c.a3)), some (.int (c.a4)), some (.int (c.a6)), some (.int (c.b2)), some (.int (c.b4)), some (.int (c.b6)), some (.int (c.a1 * c.a1 * c.a6 + 4 * c.a2 * c.a6 - c.a1 * c.a3 * c.a4)), none, none, none] (by rfl) ?_ | refine sig [some (.ref p), some (.int (c.a1)), some (.int (c.a2)), some (.int (c.a3)), some (.int (c.a4)), some (.int (c.a6)), some (.int (c.b2)), some (.int (c.b4)), some (.int (c.b6)), some (.int (c.a1 * c.a1 * c.a6 + 4 * c.a2 * c.a6 - c.a1 * c.a3 * c.a4)), none, none, none] (by rfl) ?_
    refine ⟨_, rfl, _, rfl, _, rfl, _, _, rfl, rfl, (by walk_at "bnd"), _, rfl, _, _, rfl, rfl, (by walk_at "bnd"), _, _, rfl, rfl, _, rfl, _, rfl, _, _, rfl, rfl, (by walk_at "bnd"), _, _, rfl, rfl, ?_⟩
    first | refine sigN [some (.ref p), some (.int (c.a1)), some (.int (c.a2)), some (.int (c.a3)), some (.int (c.a4)), some (.int (c.a6)), some (.int (c.b2)), some (.int (c.b4)), some (.int (c.b6)), some (.int (c.b8)), none, none, none] (by rfl) ?_ | refine sig [some (.ref p), some (.int (c.a1)), some (.int (c.a2)), some (.int (c.a3)), some (.int (c.a4)), some (.int (c.a6)), some (.int (c.b2)), some (.int (c.b4)), some (.int (c.b6)), some (.int (c.b8)), none, none, none] (by rfl) ?_
    refine ⟨_, rfl, _, rfl, _, _, rfl, rfl, (by walk_at "bnd"), _, rfl, _, _, rfl, rfl, (Or.inl ⟨by decide, by decide⟩), _, _, rfl, rfl, _, rfl, _, _, rfl, rfl, (Or.inl ⟨by decide, by decide⟩), _, rfl, _, _, rfl, rfl, (by walk_at "bnd"), _, rfl, _, _, rfl, rfl, ⟨by decide, by decide, by walk_at "pw"⟩, _, _, rfl, rfl, _, rfl, _, _, rfl, rfl, (Or.inl ⟨by decide, by decide⟩), _, _, rfl, rfl, _, _, rfl, ?_⟩
    first | refine sigN [some (.ref p), some (.int (c.a1)), some (.int (c.a2)), some (.int (c.a3)), some (.int (c.a4)), some (.int (c.a6)), some (.int (c.b2)), some (.int (c.b4)), some (.int (c.b6)), some (.int (c.b8)), some (.int (c.c4)), some (.int (36 * c.b2 * c.b4 - c.b2 ^ 3 - 216 * c.b6)), none] (by rfl) ?_ | refine sig [some (.ref p), some (.int (c.a1)), some (.int (c.a2)), some (.int (c.a3)), some (.int (c.a4)), some (.int (c.a6)), some (.int (c.b2)), some (.int (c.b4)), some (.int (c.b6)), some (.int (c.b8)), some (.int (c.c4)), some (.int (36 * c.b2 * c.b4 - c.b2 ^ 3 - 216 * c.b6)), none] (by rfl) ?_
    refine ⟨_, rfl, _, _, rfl, rfl, (Or.inl ⟨by decide, by decide⟩), _, rfl, _, _, rfl, rfl, (by walk_at "bnd"), _, rfl, _, _, rfl, rfl, (by walk_at "bnd"), _, rfl, _, rfl, _, _, rfl, rfl, (by walk_at "bnd"), _, rfl, _, _, rfl, rfl, (by walk_at "bnd"), _, _, rfl, rfl, ?_⟩
    first | refine sigN [some (.ref p), some (.int (c.a1)), some (.int (c.a2)), some (.int (c.a3)), some (.int (c.a4)), some (.int (c.a6)), some (.int (c.b2)), some (.int (c.b4)), some (.int (c.b6)), some (.int (c.b8)), some (.int (c.c4)), some (.int (36 * c.b2 * c.b4 - c.b2 ^ 3 - 216 * c.b6)), some (.int (9 * c.b2 * c.b4 * c.b6 - c.b2 * c.b2 * c.b8))] (by rfl) ?_ | refine sig [some (.ref p), some (.int (c.a1)), some (.int (c.a2)), some (.int (c.a3)), some (.int (c.a4)), some (.int (c.a6)), some (.int (c.b2)), some (.int (c.b4)), some (.int (c.b6)), some (.int (c.b8)), some (.int (c.c4)), some (.int (36 * c.b2 * c.b4 - c.b2 ^ 3 - 216 * c.b6)), some (.int (9 * c.b2 * c.b4 * c.b6 - c.b2 * c.b2 * c.b8))] (by rfl) ?_
    refine ⟨_, rfl, _, rfl, _, rfl, _, rfl, _, rfl, _, rfl, _, rfl, _, rfl, _, _, rfl, rfl, ⟨by decide, by decide, by walk_at "pw"⟩, _, _, rfl, rfl, (Or.inl ⟨by decide, by decide⟩), _, _, rfl, rfl, _, rfl, _, _, rfl, rfl, (Or.inl ⟨by decide, by decide⟩), _, rfl, _, _, rfl, rfl, (by walk_at "bnd"), _, _, rfl, rfl, (by show 7 ≤ sizeLine; decide), fun t nt => ?_⟩
    have e : c.nums = [V.int c.b2, V.int c.b4, V.int c.b6, V.int c.b8, V.int c.c4, V.int (36 * c.b2 * c.b4 - c.b2 ^ 3 - 216 * c.b6), V.int (9 * c.b2 * c.b4 * c.b6 - c.b2 * c.b2 * c.b8 - 8 * c.b4 ^ 3 - 27 * c.b6 * c.b6)] := by
      rw [← Cv.nums_c6, ← Cv.nums_d]
      rfl
    rw [e] at q
    exact q t nt
end
end K12
set_option Elab.async false
set_option linter.all false
set_option maxRecDepth 100000
set_option maxHeartbeats 4000000
namespace K12
open PySem PySem.Spec PyProof.Rows L2 Gd QM
section
variable {P : Program} {w : World} {K : PySem.W.Frag} {mg : Str → Option Value} {base : Heap}
/-! ### one draw -/
def sp_law_draw (K : PySem.W.Frag) : Sp := fun vs H Q _ => ∃ (m cl : Addr) (b : Int) (n : Nat), vs = [.ref m, .int b] ∧ 0 < b ∧ b < 4294967296 ∧ n ≤ 1000000 ∧ MAt H m cl n ∧ ∀ H' r, But m H H' → MAt H' m cl (n + 1) → 0 ≤ r → r < b → Q (.int r) H'
abbrev s__law_draw : Stmt := topS 23
theorem sc__law_draw : FnScope ["m", "below", "found", "spot", "cells", "extra", "cell", "blend"] ["m", "below"] (defScope s__law_draw) := ⟨rfl, rfl, rfl, by decide +kernel, rfl, by decide +kernel, by decide +kernel⟩
theorem k_law_draw (T : Tx K mg) (D : Df K mg "_law_draw" s__law_draw ["m", "below"])  : Kl P w K mg base 1 "_law_draw" (sp_law_draw K) := by
  have nd := sc__law_draw.nd
  refine Kl.by_body D sc__law_draw (fun vs H Q E h => ?_) (fun f cdv A outer s H vs Q E hr h => ?_)
  · obtain ⟨_, _, _, _, rfl, _⟩ := h
    rfl
  · obtain ⟨m, c, b, n, rfl, hb0, hb1, hn, ⟨L, s0, cs, k, hm, hk, hc, hl⟩, q⟩ := h
    have hu1 := hu_of hr
    refine ⟨_, (pss_cons (ps_if (pt_cmpR op_gt (pe_dget hu1 (pv 0) pe_str (fun _ _ => rfl)) pe_int (nomark _)) (pss_cons (ps_set (i := 2) nd rfl (by first | exact Or.inl rfl | exact Or.inr rfl) (pe_op op_mod (pe_callTy call_intI (by rfl) T.int (by decide +kernel) (pa_cons (pe_dget hu1 (pv 0) pe_str (fun _ _ => rfl)) pa_nil)) (pv 1)))
      (pss_cons (ps_dput hu1 (pv 0) pe_str (pe_op op_fdivAny (pe_dget hu1 (pv 0) pe_str (fun _ _ => rfl)) (pv 1)) rfl)
      (pss_one (ps_ret (pv 2))))) pss_nil)
      (pss_cons (ps_set (i := 3) nd rfl (by first | exact Or.inl rfl | exact Or.inr rfl) (pe_dget hu1 (pv 0) pe_str (fun _ _ => rfl)))
      (pss_cons (ps_dput hu1 (pv 0) pe_str (pe_op op_add (pv 3) pe_int) rfl)
      (pss_cons (ps_par (i := 4) (j := 5) (by rfl) nd rfl rfl (by decide) rfl rfl (pa_cons (pe_dget hu1 (pv 0) pe_str (fun _ _ => rfl)) (pa_cons (pe_op op_add (pe_dget hu1 (pv 0) pe_str (fun _ _ => rfl)) (pe_op op_mulW (pe_op op_mul pe_int (pv 3)) (pv 3))) pa_nil)) (by rfl))
      (pss_cons (ps_set (i := 6) nd rfl (by first | exact Or.inl rfl | exact Or.inr rfl) (pe_ix ix_list (pv 4) (pe_op op_mod (pe_callTy call_intI (by rfl) T.int (by decide +kernel) (pa_cons (pv 3) pa_nil)) (pe_callB call_len_seq (by rfl) T.len (by decide +kernel) (pa_cons (pv 4) pa_nil))) (fun _ _ => rfl)))
      (pss_cons (ps_set (i := 7) nd rfl (by first | exact Or.inl rfl | exact Or.inr rfl) (pe_op op_mod (pe_callTy call_intI (by rfl) T.int (by decide +kernel) (pa_cons (pe_op op_add (pe_op op_mul (pv 6) (pe_op op_add (pe_op op_mul pe_int (pv 3)) pe_int)) (pv 5)) pa_nil)) pe_int))
      (pss_cons (ps_set (i := 7) nd rfl (by first | exact Or.inl rfl | exact Or.inr rfl) (pe_op op_mod (pe_callTy call_intI (by rfl) T.int (by decide +kernel) (pa_cons (pe_op op_add (pe_op op_add (pe_op op_mul (pv 7) (pv 7)) (pe_op op_mul pe_int (pv 3))) (pe_dget hu1 (pv 0) pe_str (fun _ _ => rfl))) pa_nil)) pe_int))
      (pss_one (ps_ret (pe_op op_mod (pe_op op_fdiv (pe_op op_mod (pe_callTy call_intI (by rfl) T.int (by decide +kernel) (pa_cons (pe_op op_add (pe_op op_mul (pv 7) pe_int) (pv 3)) pa_nil)) pe_int) pe_int) (pv 1))))))))))), ?_⟩
    have gL : DGet H m (.str "left") (some (.int L)) := m4_left (L := L) ▸ DGet.k (k := Sum.inr "left") hm
    have ncm : c ≠ m := ne_of hc hm (by intro z; cases z)
    refine ⟨_, rfl, m, _, rfl, gL, _, _, rfl, rfl, _, rfl, ite2 (fun e => ?_) (fun e => ?_)⟩
    · refine ⟨_, rfl, m, _, rfl, gL, _, rfl, _, rfl, _, _, rfl, rfl, hb0, ?_⟩
      refine ⟨_, rfl, m, _, rfl, gL, _, rfl, _, _, rfl, rfl, div_any (m := 33) (by omega) (by unfold B; omega) (by decide), _, rfl, m, _, rfl, DPut.k (k := Sum.inr "left") hm (small1000 (by show 4 ≤ 1000; decide)), ?_⟩
      rw [m4_putL]
      refine ⟨_, rfl, ?_⟩
      refine q _ _ But.upd ⟨_, s0, cs, k, upd_same, by omega, ?_, hl⟩ (Int.emod_nonneg _ (by omega)) (Int.emod_lt_of_pos _ hb0)
      rw [upd_ne ncm]
      exact hc
    · have gS : DGet H m (.str "spot") (some (.int k)) := m4_spot (n := k) ▸ DGet.k (k := Sum.inr "spot") hm
      refine ⟨_, rfl, m, _, rfl, gS, ?_⟩
      refine ⟨_, rfl, _, _, rfl, rfl, _, rfl, m, _, rfl, DPut.k (k := Sum.inr "spot") hm (small1000 (by show 4 ≤ 1000; decide)), ?_⟩
      rw [m4_putS]
      have hm2 : (upd H m (HO.dK (mk4 L s0 c (k + 1)))) m = some (.dK (mk4 L s0 c (k + 1))) := upd_same
      have hc2 : (upd H m (HO.dK (mk4 L s0 c (k + 1)))) c = some (.lst (cs.map V.int)) := by
        rw [upd_ne ncm]
        exact hc
      have bt : But m H (upd H m (HO.dK (mk4 L s0 c (k + 1)))) := But.upd
      generalize upd H m (HO.dK (mk4 L s0 c (k + 1))) = H2 at hm2 hc2 bt ⊢
      have gC : DGet H2 m (.str "cells") (some (.ref c)) := m4_cells (c := c) ▸ DGet.k (k := Sum.inr "cells") hm2
      have gE : DGet H2 m (.str "seed") (some (.int s0)) := m4_seed (s := s0) ▸ DGet.k (k := Sum.inr "seed") hm2
      have bk : B 20 (k : Int) := by
        unfold B
        omega
      refine ⟨_, rfl, m, _, rfl, gC, _, rfl, m, _, rfl, gE, _, rfl, _, _, rfl, rfl, (Or.inl ⟨by decide, by decide⟩), _, rfl, _, _, rfl, rfl, ((B.lit (n := 20) (by decide)).mul bk).mulW bk (by decide), _, _, rfl, rfl, _, _, rfl, ?_⟩
      have hlz : (0 : Int) < ((cs.map V.int).length : Int) := by
        rw [List.length_map]
        omega
      have hix : ∃ z : Int, atI (cs.map V.int) ((k : Int) % ((cs.map V.int).length : Int)) = some (.int z) := by
        rw [List.length_map]
        have h1 : k % cs.length < cs.length := Nat.mod_lt _ hl
        refine ⟨cs[k % cs.length], ?_⟩
        rw [← Int.natCast_emod]
        refine atI_nat ?_
        rw [List.getElem?_map, List.getElem?_eq_getElem h1]
        rfl
      obtain ⟨z, hz⟩ := hix
      refine ⟨_, rfl, _, rfl, _, rfl, _, rfl, c, _, rfl, .inl (.inl (.inl hc2)), _, _, rfl, rfl, hlz, c, _, _, _, rfl, rfl, .inl (.inl hc2), hz, ?_⟩
      have bk2 : B 30 (2 * (k : Int) + 3) := by
        unfold B
        omega
      refine ⟨_, rfl, _, rfl, _, _, rfl, rfl, (Or.inl ⟨by decide, by decide⟩), _, _, rfl, rfl, _, _, rfl, rfl, bk2.mulR (by decide), _, rfl, _, _, rfl, rfl, _, rfl, _, _, rfl, rfl, (by show (0 : Int) < 2147483647; decide), ?_⟩
      have be : ∀ y : Int, B 32 (y % 2147483647) := fun y => by
        have h1 := Int.emod_nonneg y (show (2147483647 : Int) ≠ 0 by decide)
        have h2 := Int.emod_lt_of_pos y (show (0 : Int) < 2147483647 by decide)
        unfold B
        omega
      refine ⟨_, rfl, _, rfl, _, _, rfl, rfl, (be _).mulR (by decide), _, rfl, _, _, rfl, rfl, (Or.inl ⟨by decide, by decide⟩), _, _, rfl, rfl, _, rfl, m, _, rfl, gE, _, _, rfl, rfl, _, rfl, _, _, rfl, rfl, (by show (0 : Int) < 2147483629; decide), ?_⟩
      refine ⟨_, rfl, _, _, rfl, rfl, (Or.inr ⟨by decide, by decide⟩), _, rfl, _, _, rfl, rfl, _, rfl, _, _, rfl, rfl, (by show (0 : Int) < 2147483647; decide), _, _, rfl, rfl, ⟨by decide, by decide⟩, _, rfl, _, _, rfl, rfl, hb0, ?_⟩
      exact q _ _ bt ⟨L, s0, cs, k + 1, hm2, by omega, hc2, hl⟩ (Int.emod_nonneg _ (by omega)) (Int.emod_lt_of_pos _ hb0)
/-! ### one of some -/
def sp_law_of (K : PySem.W.Frag) : Sp := fun vs H Q _ => ∃ (m cl a : Addr) (xs : List V) (n : Nat), vs = [.ref m, .ref a] ∧ SqL K H a xs ∧ 0 < xs.length ∧ xs.length ≤ 1000 ∧ n ≤ 1000000 ∧ MAt H m cl n ∧ ∀ H' x, But m H H' → MAt H' m cl (n + 1) → x ∈ xs → Q x H'
abbrev s__law_of : Stmt := topS 24
theorem sc__law_of : FnScope ["m", "some"] ["m", "some"] (defScope s__law_of) := ⟨rfl, rfl, rfl, by decide +kernel, rfl, by decide +kernel, by decide +kernel⟩
theorem k_law_of (T : Tx K mg) (D : Df K mg "_law_of" s__law_of ["m", "some"]) (c_law_draw : Kl P w K mg base 1 "_law_draw" (sp_law_draw K)) : Kl P w K mg base 2 "_law_of" (sp_law_of K) := by
  have nd := sc__law_of.nd
  refine Kl.by_body D sc__law_of (fun vs H Q E h => ?_) (fun f cdv A outer s H vs Q E hr h => ?_)
  · obtain ⟨_, _, _, _, _, rfl, _⟩ := h
    rfl
  · obtain ⟨m, cl, a, xs, n, rfl, hx, h0, h1, hn, hM, q⟩ := h
    have hu1 := hu_of hr
    refine ⟨_, (pss_one (ps_ret (pe_ix ix_list (pv 1) (pe_k c_law_draw  hr (by decide) (by rfl) (pa_cons (pv 0) (pa_cons (pe_callB call_len_seq (by rfl) T.len (by decide +kernel) (pa_cons (pv 1) pa_nil)) pa_nil))) (fun _ _ => rfl)))), ?_⟩
    refine ⟨.ref a, rfl, _, rfl, .ref a, rfl, a, xs, rfl, .inl hx, m, cl, _, n, rfl, by omega, by omega, hn, hM, fun H1 r b1 m1 r0 r1 => ?_⟩
    have hr1 : r.toNat < xs.length := by omega
    refine ⟨a, xs, r, xs[r.toNat], rfl, rfl, b1.seqL hM hx, ?_, q _ _ b1 m1 (List.getElem_mem hr1)⟩
    have key : atI xs ((r.toNat : Nat) : Int) = some xs[r.toNat] := atI_nat (List.getElem?_eq_getElem hr1)
    rw [show ((r.toNat : Nat) : Int) = r by omega] at key
    exact key
/-! ### between -/
def sp_law_between (K : PySem.W.Frag) : Sp := fun vs H Q _ => ∃ (m cl : Addr) (z : Int) (n : Nat), vs = [.ref m, .int z] ∧ 0 ≤ z ∧ z ≤ 2000000000 ∧ n ≤ 1000000 ∧ MAt H m cl n ∧ ∀ H' r, But m H H' → MAt H' m cl (n + 1) → -z ≤ r → r ≤ z → Q (.int r) H'
abbrev s__law_between : Stmt := topS 25
theorem sc__law_between : FnScope ["m", "size"] ["m", "size"] (defScope s__law_between) := ⟨rfl, rfl, rfl, by decide +kernel, rfl, by decide +kernel, by decide +kernel⟩
theorem k_law_between (T : Tx K mg) (D : Df K mg "_law_between" s__law_between ["m", "size"]) (c_law_draw : Kl P w K mg base 1 "_law_draw" (sp_law_draw K)) : Kl P w K mg base 2 "_law_between" (sp_law_between K) := by
  have nd := sc__law_between.nd
  refine Kl.by_body D sc__law_between (fun vs H Q E h => ?_) (fun f cdv A outer s H vs Q E hr h => ?_)
  · obtain ⟨_, _, _, _, rfl, _⟩ := h
    rfl
  · obtain ⟨m, cl, z, n, rfl, h0, h1, hn, hM, q⟩ := h
    have hu1 := hu_of hr
    refine ⟨_, (pss_one (ps_ret (pe_op op_sub (pe_k c_law_draw  hr (by decide) (by rfl) (pa_cons (pv 0) (pa_cons (pe_op op_add (pe_op op_mul pe_int (pv 1)) pe_int) pa_nil))) (pv 1)))), ?_⟩
    refine ⟨_, rfl, _, rfl, _, _, rfl, rfl, (Or.inl ⟨by decide, by decide⟩), _, _, rfl, rfl, m, cl, _, n, rfl, by omega, by omega, hn, hM, fun H1 r b1 m1 r0 r1 => ?_⟩
    refine ⟨_, rfl, _, _, rfl, rfl, ?_⟩
    exact q _ _ b1 m1 (by omega) (by omega)
/-! ### the state of a turn -/
def sp_law_begun (K : PySem.W.Frag) : Sp := fun vs H Q _ => ∃ (a : Addr) (k : Int) (ns : List Int), vs = [.ref a, .int k] ∧ SqL K H a (ns.map V.int) ∧ ns.length ≤ 63 ∧ 0 ≤ k ∧ k ≤ 100 ∧ ∀ H' m cl, Same H H' → H m = none → H cl = none → MAt H' m cl 0 → Q (.ref m) H'
theorem cut_int {ns : List Int} (lo hi : Option Int) : ∃ ms : List Int, cutV (ns.map V.int) lo hi = ms.map V.int ∧ ms.length ≤ ns.length := by
  unfold cutV
  refine ⟨(ns.drop (HT.sIx (ns.map V.int).length 0 lo)).take (HT.sIx (ns.map V.int).length (ns.map V.int).length hi - HT.sIx (ns.map V.int).length 0 lo), ?_, ?_⟩
  · rw [List.map_take, List.map_drop]
  · rw [List.length_take, List.length_drop]
    omega
abbrev s__law_begun : Stmt := topS 22
theorem sc__law_begun : FnScope ["script", "k", "cells", "great", "cell", "begun", "left"] ["script", "k"] (defScope s__law_begun) := ⟨rfl, rfl, rfl, by decide +kernel, rfl, by decide +kernel, by decide +kernel⟩
theorem k_law_begun (T : Tx K mg) (D : Df K mg "_law_begun" s__law_begun ["script", "k"])  : Kl P w K mg base 1 "_law_begun" (sp_law_begun K) := by
  have nd := sc__law_begun.nd
  refine Kl.by_body D sc__law_begun (fun vs H Q E h => ?_) (fun f cdv A outer s H vs Q E hr h => ?_)
  · obtain ⟨_, _, _, rfl, _⟩ := h
    rfl
  · obtain ⟨a, k, ns, rfl, hx, hl, hk0, hk1, q⟩ := h
    have hu1 := hu_of hr
    refine ⟨_, (pss_cons (ps_set (i := 2) nd rfl (by first | exact Or.inl rfl | exact Or.inr rfl) (pe_op op_cat (pe_slice sl_list (pv 0) (po_some (pv 1)) po_none) (pe_slice sl_list (pv 0) po_none (po_some (pv 1)))))
      (pss_cons (ps_setLc (i := 3) (own := [("cell", 4)]) (g := gName 4) rfl nd rfl rfl (sw_true rfl rfl rfl (by decide +kernel)) (pi_list (pv 0)) (blkOk_by (N := ["script", "k", "cells", "great", "cell", "begun", "left"]) (sc := defScope s__law_begun) (by decide +kernel)) (fun _ _ _ _ _ => (pg_name (i := 4) nd rfl (by first | exact Or.inl rfl | exact Or.inr rfl))) (fun _ _ _ _ _ => (pts_one (pt_cmpR op_ge (pv 4) (pe_op op_pow pe_int pe_int) (nomark _)))) (fun _ _ _ _ _ => (pv 4)))
      (pss_cons (ps_set (i := 5) nd rfl (by first | exact Or.inl rfl | exact Or.inr rfl) (pe_op op_add pe_int (pe_op op_mul pe_int (pv 1))))
      (pss_cons (ps_for PassesOwn.never rfl (pi_list (pv 2)) (pg_name (i := 4) nd rfl (by first | exact Or.inl rfl | exact Or.inr rfl)) (pss_one (ps_set (i := 5) nd rfl (by first | exact Or.inl rfl | exact Or.inr rfl) (pe_op op_mod (pe_callTy call_intI (by rfl) T.int (by decide +kernel) (pa_cons (pe_op op_add (pe_op op_mul (pv 5) pe_int) (pv 4)) pa_nil)) pe_int))))
      (pss_cons (ps_set (i := 6) nd rfl (by first | exact Or.inl rfl | exact Or.inr rfl) (pe_ifExp (pt_cmpR op_lt (pv 1) (pe_callB call_len_seq (by rfl) T.len (by decide +kernel) (pa_cons (pv 3) pa_nil)) (nomark _)) (pe_ix ix_list (pv 3) (pv 1) (fun _ _ => rfl)) pe_int))
      (pss_one (ps_ret (pe_disp (pps_cons pe_str (pv 6) (pps_cons pe_str (pv 5) (pps_cons pe_str (pe_op op_cat (pv 2) (pe_lst (pa_cons (pe_op op_add (pe_op op_mul pe_int (pv 1)) pe_int) pa_nil))) (pps_cons pe_str pe_int pps_nil)))) (by rfl) (by rfl) (fun z => by cases z) (by decide))))))))), ?_⟩
    obtain ⟨m1, e1, l1⟩ := cut_int (ns := ns) (some k) none
    obtain ⟨m2, e2, l2⟩ := cut_int (ns := ns) none (some k)
    refine ⟨.ref a, rfl, _, rfl, k, rfl, a, _, rfl, hx, fun p1 n1 => ?_⟩
    rw [e1]
    have s1 : Same H (upd H p1 (.lst (m1.map V.int))) := Same.new n1
    have g1 : (upd H p1 (.lst (m1.map V.int))) p1 = some (.lst (m1.map V.int)) := upd_same
    generalize upd H p1 (.lst (m1.map V.int)) = H1 at s1 g1 ⊢
    refine ⟨.ref a, rfl, _, rfl, k, rfl, a, _, rfl, s1.seq hx, fun p2 n2 => ?_⟩
    rw [e2]
    have s2 : Same H1 (upd H1 p2 (.lst (m2.map V.int))) := Same.new n2
    have g2 : (upd H1 p2 (.lst (m2.map V.int))) p2 = some (.lst (m2.map V.int)) := upd_same
    generalize upd H1 p2 (.lst (m2.map V.int)) = H2 at s2 g2 ⊢
    refine ⟨p1, p2, _, _, rfl, rfl, s2 _ _ g1, g2, ?_, fun p3 n3 => ?_⟩
    · rw [List.length_map, List.length_map]
      exact small (by omega)
    rw [← List.map_append]
    have s3 : Same H2 (upd H2 p3 (.lst ((m1 ++ m2).map V.int))) := Same.new n3
    have g3 : (upd H2 p3 (.lst ((m1 ++ m2).map V.int))) p3 = some (.lst ((m1 ++ m2).map V.int)) := upd_same
    have hl3 : (m1 ++ m2).length ≤ 126 := by
      rw [List.length_append]
      omega
    generalize m1 ++ m2 = cs at s3 g3 hl3 ⊢
    generalize upd H2 p3 (.lst (cs.map V.int)) = H3 at s3 g3 ⊢
    have sA : Same H H3 := (s1.trans s2).trans s3
    clear s1 s2 s3 g1 g2
    first | refine sigN [some (.ref a), some (.int (k)), some (V.ref p3), none, none, none, none] (by rfl) ?_ | refine sig [some (.ref a), some (.int (k)), some (V.ref p3), none, none, none, none] (by rfl) ?_
    refine ⟨.ref a, rfl, a, rfl, ⟨_, sA.seq hx⟩, fun D hD => ?_⟩
    refine lc_list (K := K) (a := a) (xs := ns.map V.int) (fun i H4 => Same H3 H4 ∧ ∃ gs : List Int, H4 D = some (.lst (gs.map V.int)) ∧ gs.length ≤ i) ⟨Same.new hD, [], upd_same, Nat.le_refl _⟩ (fun i H4 _ z => (sA.trans z.1).seq hx) (fun i x H4 hi z => ?_) (fun H4 z => ?_)
    · obtain ⟨s4, gs, g4, l4⟩ := z
      obtain ⟨y, rfl⟩ : ∃ y : Int, x = .int y := by
        rw [List.getElem?_map] at hi
        cases e : ns[i]? with
        | none =>
          rw [e] at hi
          cases hi
        | some y =>
          rw [e] at hi
          exact ⟨y, (Option.some.inj hi).symm⟩
      have hi2 : i < ns.length := by
        have h1 := (List.getElem?_eq_some_iff.mp hi).1
        rw [List.length_map] at h1
        exact h1
      refine ⟨rfl, _, rfl, _, _, rfl, rfl, ⟨by decide, by decide, by decide⟩, _, _, rfl, rfl, _, rfl, ite2 (fun _ => ?_) (fun _ => ?_)⟩
      · refine ⟨_, rfl, _, g4, ?_, Same.put s4 hD, gs ++ [y], ?_, ?_⟩
        · rw [List.length_map]
          exact small1000 (by omega)
        · rw [upd_same, List.map_append]
          rfl
        · rw [List.length_append]
          exact Nat.add_le_add_right l4 1
      · exact ⟨s4, gs, g4, Nat.le_succ_of_le l4⟩
    · obtain ⟨s4, gs, g4, l4⟩ := z
      have sB : Same H H4 := sA.trans s4
      have g3' := s4 _ _ g3
      refine ⟨_, rfl, _, _, rfl, rfl, (Or.inl ⟨by decide, by decide⟩), _, _, rfl, rfl, ?_⟩
      first | refine sigN [some (.ref a), some (.int (k)), some (V.ref p3), some (V.ref D), none, some (.int (61 + 9 * k)), none] (by rfl) ?_ | refine sig [some (.ref a), some (.int (k)), some (V.ref p3), some (V.ref D), none, some (.int (61 + 9 * k)), none] (by rfl) ?_
      refine ⟨_, rfl, p3, rfl, ⟨_, .inl (.inl g3')⟩, for_list (K := K) (a := p3) (xs := cs.map V.int) (fun i σ H5 => H5 = H4 ∧ ∃ (y : Int) (v : Option V), σ = [some (.ref a), some (.int k), some (.ref p3), some (.ref D), v, some (.int y), none]) ⟨rfl, _, none, rfl⟩ (fun i σ H5 _ z => by rw [z.1]; exact .inl (.inl g3')) ?_ ?_⟩
      · rintro i x σ H5 hi ⟨rfl, y, v, rfl⟩
        obtain ⟨t, rfl⟩ : ∃ t : Int, x = .int t := by
          rw [List.getElem?_map] at hi
          cases e : cs[i]? with
          | none =>
            rw [e] at hi
            cases hi
          | some t =>
            rw [e] at hi
            exact ⟨t, (Option.some.inj hi).symm⟩
        refine ⟨_, rfl, _, _, rfl, rfl, (Or.inr ⟨by decide, by decide⟩), _, rfl, _, _, rfl, rfl, _, rfl, _, _, rfl, rfl, (by show (0 : Int) < 2147483647; decide), ?_⟩
        exact ⟨rfl, _, _, rfl⟩
      · rintro σ H5 ⟨rfl, y, v, rfl⟩
        refine ⟨_, rfl, _, rfl, D, _, rfl, .inl (.inl (.inl g4)), _, _, rfl, rfl, _, rfl, ite2 (fun e => ?A) (fun e => ?B)⟩
        case' A =>
          have e' : k < ((gs.map V.int).length : Int) := of_decide_eq_true e
          rw [List.length_map] at e'
          have hk2 : k.toNat < gs.length := by omega
          have hz : atI (gs.map V.int) k = some (.int gs[k.toNat]) := by
            have key : atI (gs.map V.int) ((k.toNat : Nat) : Int) = some (.int gs[k.toNat]) := atI_nat (by
              rw [List.getElem?_map, List.getElem?_eq_getElem hk2]
              rfl)
            rw [show ((k.toNat : Nat) : Int) = k by omega] at key
            exact key
          refine ⟨_, rfl, _, rfl, D, _, _, _, rfl, rfl, .inl (.inl g4), hz, ?_⟩
        all_goals
          intro m nm
          have h3m : p3 ≠ m := ne_of_none g3' nm
          refine ⟨_, rfl, _, rfl, _, rfl, _, rfl, _, _, rfl, rfl, (Or.inl ⟨by decide, by decide⟩), _, _, rfl, rfl, (by show 1 ≤ sizeLine; decide), fun l nl => ?_⟩
          have nml : m ≠ l := ne_of_none upd_same nl
          have nl0 : H5 l = none := Same.free (Same.new nm) nl
          refine ⟨p3, l, cs.map V.int, [V.int (47 * k + 19)], rfl, rfl, ?_, upd_same, ?_, fun u nu => ?_⟩
          · rw [upd_ne (ne_of_none g3' nl0), upd_ne h3m]
            exact g3'
          · rw [List.length_map]
            exact small (by show cs.length + 1 ≤ 1000; omega)
          have nmu : m ≠ u := ne_of_none (by rw [upd_ne nml]; exact upd_same) nu
          have nu0 : H5 u = none := Same.free (Same.put (Same.new nm) nl0) nu
          refine ⟨?_, mk4 _ y u 0, rfl, (by show 4 ≤ 15; decide), ?_⟩
          · rw [upd_ne nmu, upd_ne nml]
            exact upd_same
          rw [m4_merge]
          have hm0 : H m = none := Same.free sB nm
          have hl0 : H l = none := Same.free sB nl0
          have hu0 : H u = none := Same.free sB nu0
          refine q _ m u (Same.put (Same.put (Same.put (Same.put sB hm0) hl0) hu0) hm0) hm0 hu0 ⟨_, y, cs ++ [47 * k + 19], 0, upd_same, Nat.le_refl _, ?_, ?_⟩
          · rw [upd_ne (fun z => nmu z.symm), upd_same, List.map_append]
            rfl
          · rw [List.length_append]
            exact Nat.lt_of_lt_of_le (by decide : 0 < 1) (Nat.le_add_left _ _)
end
end K12
set_option Elab.async false
set_option linter.all false
set_option maxRecDepth 100000
set_option maxHeartbeats 400000
namespace K12
open PySem PySem.Spec PyProof.Rows L2 Gd QM
/-! ### changes -/
structure Ch where
  u : Rat
  r : Rat
  s : Rat
  t : Rat
structure ChB (m : Nat) (c : Ch) : Prop where
  u0 : c.u ≠ 0
  u : RB m c.u
  r : RB m c.r
  s : RB m c.s
  t : RB m c.t
/-- a change stands there -/
def ChAt (K : PySem.W.Frag) (H : Hp) (p : Addr) (c : Ch) : Prop := ∃ pu pr ps pt, SqT K H p [.ref pu, .ref pr, .ref ps, .ref pt] ∧ SqT K H pu (fq c.u) ∧ SqT K H pr (fq c.r) ∧ SqT K H ps (fq c.s) ∧ SqT K H pt (fq c.t)
theorem ChAt.same {K : PySem.W.Frag} {H H' : Hp} {p : Addr} {c : Ch} (s : Same H H') (h : ChAt K H p c) : ChAt K H' p c := by
  obtain ⟨a, b, d, e, h1, h2, h3, h4, h5⟩ := h
  exact ⟨a, b, d, e, Same.tup s h1, Same.tup s h2, Same.tup s h3, Same.tup s h4, Same.tup s h5⟩
theorem ChAt.but {K : PySem.W.Frag} {m cl : Addr} {n : Nat} {H H' : Hp} {p : Addr} {c : Ch} (s : But m H H') (hM : MAt H m cl n) (h : ChAt K H p c) : ChAt K H' p c := by
  obtain ⟨a, b, d, e, h1, h2, h3, h4, h5⟩ := h
  exact ⟨a, b, d, e, s.seqT hM h1, s.seqT hM h2, s.seqT hM h3, s.seqT hM h4, s.seqT hM h5⟩
def l1 (c : Ch) (a1 : Rat) : Rat := (a1 + 2 * c.s) / c.u
def l2 (c : Ch) (a1 a2 : Rat) : Rat := (a2 - c.s * a1 + 3 * c.r - c.s * c.s) / (c.u * c.u)
def l3 (c : Ch) (a1 a3 : Rat) : Rat := (a3 + c.r * a1 + 2 * c.t) / (c.u * c.u * c.u)
def l4 (c : Ch) (a1 a2 a3 a4 : Rat) : Rat := (a4 - c.s * a3 + 2 * c.r * a2 - (c.t + c.r * c.s) * a1 + 3 * c.r * c.r - 2 * c.s * c.t) / (c.u * c.u * (c.u * c.u))
def l6 (c : Ch) (a1 a2 a3 a4 a6 : Rat) : Rat := (a6 + c.r * a4 + c.r * c.r * a2 + c.r * c.r * c.r - c.t * a3 - c.t * c.t - c.r * c.t * a1) / (c.u * c.u * c.u * (c.u * c.u * c.u))
def Cv.ints (c : Cv) : List Int := [c.a1, c.a2, c.a3, c.a4, c.a6]
theorem Cv.tup_ints (c : Cv) : c.tup = c.ints.map V.int := rfl
structure CvB (m : Nat) (c : Cv) : Prop where
  h1 : B m c.a1
  h2 : B m c.a2
  h3 : B m c.a3
  h4 : B m c.a4
  h6 : B m c.a6
theorem FrE.ren {K : PySem.W.Frag} {H : Hp} {es : List (Addr × Rat × Nat)} {p : Addr} {a b : Rat} {m : Nat} (h : FrE K H ((p, a, m) :: es)) (e : a = b) : FrE K H ((p, b, m) :: es) := e ▸ h
section
variable {P : Program} {w : World} {K : PySem.W.Frag} {mg : Str → Option Value} {base : Heap}
local macro_rules | `(tactic| walk_at "mm") => `(tactic| (repeat (first | exact List.mem_cons_self | apply List.mem_cons_of_mem)))
theorem rb_two : RB 2 (2 : Rat) := ⟨by decide, by decide⟩
theorem rb_three : RB 2 (3 : Rat) := ⟨by decide, by decide⟩
theorem rb_m1 : RB 1 (-1 : Rat) := ⟨by decide, by decide⟩
theorem rb_m2 : RB 2 (-2 : Rat) := ⟨by decide, by decide⟩
theorem fq_2 : [V.int 2, V.int 1] = fq 2 := rfl
theorem fq_3 : [V.int 3, V.int 1] = fq 3 := rfl
theorem fq_m1 : [V.int (-1), V.int 1] = fq (-1) := rfl
theorem fq_m2 : [V.int (-2), V.int 1] = fq (-2) := rfl
theorem qmul_ne {a b : Rat} (h : a ≠ 0) (k : b ≠ 0) : a * b ≠ 0 := fun e => by
  rcases Rat.mul_eq_zero.mp e with e | e
  · exact h e
  · exact k e
theorem sq_eq {K : PySem.W.Frag} {H : Hp} {p : Addr} {a b : Rat} (h : SqT K H p (fq a)) (e : a = b) : SqT K H p (fq b) := e ▸ h
/-- five fractions that a change leads to -/
def LedAt (K : PySem.W.Frag) (H : Hp) (t : Addr) (c : Ch) (v : Cv) : Prop := ∃ p1 p2 p3 p4 p6, H t = some (.tup [.ref p1, .ref p2, .ref p3, .ref p4, .ref p6]) ∧ SqT K H p1 (fq (l1 c v.a1)) ∧ SqT K H p2 (fq (l2 c v.a1 v.a2)) ∧ SqT K H p3 (fq (l3 c v.a1 v.a3)) ∧ SqT K H p4 (fq (l4 c v.a1 v.a2 v.a3 v.a4)) ∧ SqT K H p6 (fq (l6 c v.a1 v.a2 v.a3 v.a4 v.a6))
theorem LedAt.same {H H' : Hp} {t : Addr} {c : Ch} {v : Cv} (s : Same H H') (h : LedAt K H t c v) : LedAt K H' t c v := by
  obtain ⟨a, b, d, e, f, h1, h2, h3, h4, h5, h6⟩ := h
  exact ⟨a, b, d, e, f, s _ _ h1, Same.tup s h2, Same.tup s h3, Same.tup s h4, Same.tup s h5, Same.tup s h6⟩
def sp_led (K : PySem.W.Frag) : Sp := fun vs H Q _ => ∃ (p o : Addr) (c : Cv) (d : Ch), vs = [.ref p, .ref o] ∧ SqT K H p c.tup ∧ CvB 97 c ∧ ChAt K H o d ∧ ChB 29 d ∧ ∀ H' t, Same H H' → LedAt K H' t d c → Q (.ref t) H'
abbrev s_led : Stmt := topS 13
theorem sc_led : FnScope ["curve", "change", "a1", "a2", "a3", "a4", "a6", "a", "u", "r", "s", "t", "minus", "two", "three", "first", "second", "third", "fourth", "sixth", "uu", "uuu"] ["curve", "change"] (defScope s_led) := ⟨rfl, rfl, rfl, by decide +kernel, rfl, by decide +kernel, by decide +kernel⟩
theorem k_led (T : Tx K mg) (D : Df K mg "led" s_led ["curve", "change"]) (c_plus : Kl P w K mg base 2 "plus" (sp_plus K)) (c_total : Kl P w K mg base 3 "total" (sp_total K)) (c_times : Kl P w K mg base 2 "times" (sp_times K)) (c_whole_fraction : Kl P w K mg base 1 "whole_fraction" (sp_whole_fraction K)) (c_over : Kl P w K mg base 2 "over" (sp_over K)) (c_five : Kl P w K mg base 1 "five" (sp_five K)) (c_product : Kl P w K mg base 3 "product" (sp_product K)) : Kl P w K mg base 4 "led" (sp_led K) := by
  have nd := sc_led.nd
  refine Kl.by_body D sc_led (fun vs H Q E h => ?_) (fun f cdv A outer s H vs Q E hr h => ?_)
  · obtain ⟨_, _, _, _, rfl, _⟩ := h
    rfl
  · obtain ⟨p, o, c, d, rfl, hp, hc, hd, hB, q⟩ := h
    have hu1 := hu_of hr
    refine ⟨_, (pss_cons (ps_asg (pe_lc (own := [("a", 7)]) (g := gName 7) rfl nd (pi_tup (pe_k c_five  hr (by decide) (by rfl) (pa_cons (pv 0) pa_nil))) (blkOk_by (N := ["curve", "change", "a1", "a2", "a3", "a4", "a6", "a", "u", "r", "s", "t", "minus", "two", "three", "first", "second", "third", "fourth", "sixth", "uu", "uuu"]) (sc := defScope s_led) (by decide +kernel)) (fun _ _ _ _ _ => (pg_name (i := 7) nd rfl (by first | exact Or.inl rfl | exact Or.inr rfl))) (fun _ _ _ _ _ => pts_nil) (fun _ _ _ _ _ => (pe_k c_whole_fraction  hr (by decide) (by rfl) (pa_cons (pv 7) pa_nil)))) (pg_lst rfl (pgs_cons (pg_name (i := 2) nd rfl (by first | exact Or.inl rfl | exact Or.inr rfl)) (pgs_cons (pg_name (i := 3) nd rfl (by first | exact Or.inl rfl | exact Or.inr rfl)) (pgs_cons (pg_name (i := 4) nd rfl (by first | exact Or.inl rfl | exact Or.inr rfl)) (pgs_cons (pg_name (i := 5) nd rfl (by first | exact Or.inl rfl | exact Or.inr rfl)) (pgs_cons (pg_name (i := 6) nd rfl (by first | exact Or.inl rfl | exact Or.inr rfl)) pgs_nil)))))))
      (pss_cons (ps_asg (pv 1) (pg_tup rfl (pgs_cons (pg_name (i := 8) nd rfl (by first | exact Or.inl rfl | exact Or.inr rfl)) (pgs_cons (pg_name (i := 9) nd rfl (by first | exact Or.inl rfl | exact Or.inr rfl)) (pgs_cons (pg_name (i := 10) nd rfl (by first | exact Or.inl rfl | exact Or.inr rfl)) (pgs_cons (pg_name (i := 11) nd rfl (by first | exact Or.inl rfl | exact Or.inr rfl)) pgs_nil))))))
      (pss_cons (ps_asg (pe_tup (pa_cons (pe_tup (pa_cons (pe_un un_neg pe_int) (pa_cons pe_int pa_nil))) (pa_cons (pe_tup (pa_cons pe_int (pa_cons pe_int pa_nil))) (pa_cons (pe_tup (pa_cons pe_int (pa_cons pe_int pa_nil))) pa_nil)))) (pg_tup rfl (pgs_cons (pg_name (i := 12) nd rfl (by first | exact Or.inl rfl | exact Or.inr rfl)) (pgs_cons (pg_name (i := 13) nd rfl (by first | exact Or.inl rfl | exact Or.inr rfl)) (pgs_cons (pg_name (i := 14) nd rfl (by first | exact Or.inl rfl | exact Or.inr rfl)) pgs_nil)))))
      (pss_cons (ps_set (i := 15) nd rfl (by first | exact Or.inl rfl | exact Or.inr rfl) (pe_k c_plus  hr (by decide) (by rfl) (pa_cons (pv 2) (pa_cons (pe_k c_times  hr (by decide) (by rfl) (pa_cons (pv 13) (pa_cons (pv 10) pa_nil))) pa_nil))))
      (pss_cons (ps_set (i := 16) nd rfl (by first | exact Or.inl rfl | exact Or.inr rfl) (pe_k c_total  hr (by decide) (by rfl) (pa_cons (pe_lst (pa_cons (pv 3) (pa_cons (pe_k c_product  hr (by decide) (by rfl) (pa_cons (pe_lst (pa_cons (pv 12) (pa_cons (pv 10) (pa_cons (pv 2) pa_nil)))) pa_nil)) (pa_cons (pe_k c_times  hr (by decide) (by rfl) (pa_cons (pv 14) (pa_cons (pv 9) pa_nil))) (pa_cons (pe_k c_product  hr (by decide) (by rfl) (pa_cons (pe_lst (pa_cons (pv 12) (pa_cons (pv 10) (pa_cons (pv 10) pa_nil)))) pa_nil)) pa_nil))))) pa_nil)))
      (pss_cons (ps_set (i := 17) nd rfl (by first | exact Or.inl rfl | exact Or.inr rfl) (pe_k c_total  hr (by decide) (by rfl) (pa_cons (pe_lst (pa_cons (pv 4) (pa_cons (pe_k c_times  hr (by decide) (by rfl) (pa_cons (pv 9) (pa_cons (pv 2) pa_nil))) (pa_cons (pe_k c_times  hr (by decide) (by rfl) (pa_cons (pv 13) (pa_cons (pv 11) pa_nil))) pa_nil)))) pa_nil)))
      (pss_cons (ps_set (i := 18) nd rfl (by first | exact Or.inl rfl | exact Or.inr rfl) (pe_k c_total  hr (by decide) (by rfl) (pa_cons (pe_lst (pa_cons (pv 5) (pa_cons (pe_k c_product  hr (by decide) (by rfl) (pa_cons (pe_lst (pa_cons (pv 12) (pa_cons (pv 10) (pa_cons (pv 4) pa_nil)))) pa_nil)) (pa_cons (pe_k c_product  hr (by decide) (by rfl) (pa_cons (pe_lst (pa_cons (pv 13) (pa_cons (pv 9) (pa_cons (pv 3) pa_nil)))) pa_nil)) (pa_cons (pe_k c_product  hr (by decide) (by rfl) (pa_cons (pe_lst (pa_cons (pv 12) (pa_cons (pe_k c_plus  hr (by decide) (by rfl) (pa_cons (pv 11) (pa_cons (pe_k c_times  hr (by decide) (by rfl) (pa_cons (pv 9) (pa_cons (pv 10) pa_nil))) pa_nil))) (pa_cons (pv 2) pa_nil)))) pa_nil)) (pa_cons (pe_k c_product  hr (by decide) (by rfl) (pa_cons (pe_lst (pa_cons (pv 14) (pa_cons (pv 9) (pa_cons (pv 9) pa_nil)))) pa_nil)) (pa_cons (pe_k c_product  hr (by decide) (by rfl) (pa_cons (pe_lst (pa_cons (pe_tup (pa_cons (pe_un un_neg pe_int) (pa_cons pe_int pa_nil))) (pa_cons (pv 10) (pa_cons (pv 11) pa_nil)))) pa_nil)) pa_nil))))))) pa_nil)))
      (pss_cons (ps_set (i := 19) nd rfl (by first | exact Or.inl rfl | exact Or.inr rfl) (pe_k c_total  hr (by decide) (by rfl) (pa_cons (pe_lst (pa_cons (pv 6) (pa_cons (pe_k c_times  hr (by decide) (by rfl) (pa_cons (pv 9) (pa_cons (pv 5) pa_nil))) (pa_cons (pe_k c_product  hr (by decide) (by rfl) (pa_cons (pe_lst (pa_cons (pv 9) (pa_cons (pv 9) (pa_cons (pv 3) pa_nil)))) pa_nil)) (pa_cons (pe_k c_product  hr (by decide) (by rfl) (pa_cons (pe_lst (pa_cons (pv 9) (pa_cons (pv 9) (pa_cons (pv 9) pa_nil)))) pa_nil)) (pa_cons (pe_k c_product  hr (by decide) (by rfl) (pa_cons (pe_lst (pa_cons (pv 12) (pa_cons (pv 11) (pa_cons (pv 4) pa_nil)))) pa_nil)) (pa_cons (pe_k c_product  hr (by decide) (by rfl) (pa_cons (pe_lst (pa_cons (pv 12) (pa_cons (pv 11) (pa_cons (pv 11) pa_nil)))) pa_nil)) (pa_cons (pe_k c_product  hr (by decide) (by rfl) (pa_cons (pe_lst (pa_cons (pv 12) (pa_cons (pv 9) (pa_cons (pv 11) (pa_cons (pv 2) pa_nil))))) pa_nil)) pa_nil)))))))) pa_nil)))
      (pss_cons (ps_set (i := 20) nd rfl (by first | exact Or.inl rfl | exact Or.inr rfl) (pe_k c_times  hr (by decide) (by rfl) (pa_cons (pv 8) (pa_cons (pv 8) pa_nil))))
      (pss_cons (ps_set (i := 21) nd rfl (by first | exact Or.inl rfl | exact Or.inr rfl) (pe_k c_times  hr (by decide) (by rfl) (pa_cons (pv 20) (pa_cons (pv 8) pa_nil))))
      (pss_one (ps_ret (pe_tup (pa_cons (pe_k c_over  hr (by decide) (by rfl) (pa_cons (pv 15) (pa_cons (pv 8) pa_nil))) (pa_cons (pe_k c_over  hr (by decide) (by rfl) (pa_cons (pv 16) (pa_cons (pv 20) pa_nil))) (pa_cons (pe_k c_over  hr (by decide) (by rfl) (pa_cons (pv 17) (pa_cons (pv 21) pa_nil))) (pa_cons (pe_k c_over  hr (by decide) (by rfl) (pa_cons (pv 18) (pa_cons (pe_k c_times  hr (by decide) (by rfl) (pa_cons (pv 20) (pa_cons (pv 20) pa_nil))) pa_nil))) (pa_cons (pe_k c_over  hr (by decide) (by rfl) (pa_cons (pv 19) (pa_cons (pe_k c_times  hr (by decide) (by rfl) (pa_cons (pv 21) (pa_cons (pv 21) pa_nil))) pa_nil))) pa_nil)))))))))))))))))), ?_⟩
    refine ⟨.ref p, rfl, p, c, rfl, hp, p, rfl, ⟨_, hp⟩, fun D1 hD1 => ?_⟩
    refine lc_tup (K := K) (a := p) (xs := c.tup) (fun i H4 => Same H H4 ∧ FrD H4 D1 c.ints i) ⟨Same.new hD1, FrD.new⟩ (fun i H4 _ z => Same.tup z.1 hp) (fun i x H4 hi z => ?_) (fun H1 z => ?_)
    · obtain ⟨n, rfl, hn⟩ : ∃ n, x = .int n ∧ c.ints[i]? = some n := by
        rw [Cv.tup_ints, List.getElem?_map] at hi
        cases e : c.ints[i]? with
        | none =>
          rw [e] at hi
          cases hi
        | some y =>
          rw [e] at hi
          exact ⟨y, (Option.some.inj hi).symm, rfl⟩
      have hi5 : i < 5 := (List.getElem?_eq_some_iff.mp hn).1
      refine ⟨rfl, _, rfl, n, rfl, fun t nt => ?_⟩
      obtain ⟨acc, h1, h2, h3⟩ := FrD.push z.2 hn nt (by omega)
      exact ⟨acc, h1, h2, Same.put (Same.put z.1 (z.1.free nt)) hD1, h3⟩
    obtain ⟨s1, hF1⟩ := z
    obtain ⟨pa1, pa2, pa3, pa4, pa6, gD1, hpa1, hpa2, hpa3, hpa4, hpa6⟩ := hF1.five
    refine ⟨D1, _, rfl, lst_of gD1, rfl, _, _, rfl, _, _, rfl, _, _, rfl, _, _, rfl, _, _, rfl, rfl, ?_⟩
    obtain ⟨pu, pr, ps, pt, ho, hu, hr', hs, ht⟩ := hd.same s1
    first | refine sigN [some (.ref p), some (.ref o), some (.ref pa1), some (.ref pa2), some (.ref pa3), some (.ref pa4), some (.ref pa6), none, none, none, none, none, none, none, none, none, none, none, none, none, none, none] (by rfl) ?_ | refine sig [some (.ref p), some (.ref o), some (.ref pa1), some (.ref pa2), some (.ref pa3), some (.ref pa4), some (.ref pa6), none, none, none, none, none, none, none, none, none, none, none, none, none, none, none] (by rfl) ?_
    refine ⟨.ref o, rfl, o, _, rfl, ho, rfl, _, _, rfl, _, _, rfl, _, _, rfl, _, _, rfl, rfl, ?_⟩
    first | refine sigN [some (.ref p), some (.ref o), some (.ref pa1), some (.ref pa2), some (.ref pa3), some (.ref pa4), some (.ref pa6), none, some (.ref pu), some (.ref pr), some (.ref ps), some (.ref pt), none, none, none, none, none, none, none, none, none, none] (by rfl) ?_ | refine sig [some (.ref p), some (.ref o), some (.ref pa1), some (.ref pa2), some (.ref pa3), some (.ref pa4), some (.ref pa6), none, some (.ref pu), some (.ref pr), some (.ref ps), some (.ref pt), none, none, none, none, none, none, none, none, none, none] (by rfl) ?_
    have E0 : FrE K H1 [(pu, d.u, 29), (pr, d.r, 29), (ps, d.s, 29), (pt, d.t, 29), (pa1, (c.a1 : Rat), 97), (pa2, (c.a2 : Rat), 97), (pa3, (c.a3 : Rat), 97), (pa4, (c.a4 : Rat), 97), (pa6, (c.a6 : Rat), 97)] :=
      FrE.add (FrE.add (FrE.add (FrE.add (FrE.add (FrE.add (FrE.add (FrE.add (FrE.add FrE.nil (tup_of hpa6) (RB.int hc.h6 (by decide))) (tup_of hpa4) (RB.int hc.h4 (by decide))) (tup_of hpa3) (RB.int hc.h3 (by decide))) (tup_of hpa2) (RB.int hc.h2 (by decide))) (tup_of hpa1) (RB.int hc.h1 (by decide))) ht hB.t) hs hB.s) hr' hB.r) hu hB.u
    clear hpa1 hpa2 hpa3 hpa4 hpa6 gD1 hF1 hD1 ho hu hr' hs ht hd
    refine ⟨_, rfl, ?_⟩
    refine ⟨(by show 2 ≤ sizeLine; decide), fun minus nminus => ?_⟩
    obtain ⟨H2, eH_, s2, E1⟩ := litE E0 nminus fq_m1 rb_m1
    rw [eH_]
    clear eH_
    refine ⟨(by show 2 ≤ sizeLine; decide), fun two ntwo => ?_⟩
    obtain ⟨H3, eH_, s3, E2⟩ := litE E1 ntwo fq_2 rb_two
    rw [eH_]
    clear eH_
    refine ⟨(by show 2 ≤ sizeLine; decide), fun three nthree => ?_⟩
    obtain ⟨H4, eH_, s4, E3⟩ := litE E2 nthree fq_3 rb_three
    rw [eH_]
    clear eH_
    refine ⟨(by show 3 ≤ sizeLine; decide), fun tz nz => ?_⟩
    have E4 := E3.same (Same.new (o := .tup [.ref minus, .ref two, .ref three]) nz)
    have s5 := Same.new (o := .tup [.ref minus, .ref two, .ref three]) nz
    have gz : (upd H4 tz (.tup [.ref minus, .ref two, .ref three])) tz = some (.tup [.ref minus, .ref two, .ref three]) := upd_same
    generalize upd H4 tz (.tup [.ref minus, .ref two, .ref three]) = H5 at E4 s5 gz ⊢
    refine ⟨tz, _, rfl, tup_of gz, rfl, _, _, rfl, _, _, rfl, _, _, rfl, rfl, ?_⟩
    first | refine sigN [some (.ref p), some (.ref o), some (.ref pa1), some (.ref pa2), some (.ref pa3), some (.ref pa4), some (.ref pa6), none, some (.ref pu), some (.ref pr), some (.ref ps), some (.ref pt), some (.ref minus), some (.ref two), some (.ref three), none, none, none, none, none, none, none] (by rfl) ?_ | refine sig [some (.ref p), some (.ref o), some (.ref pa1), some (.ref pa2), some (.ref pa3), some (.ref pa4), some (.ref pa6), none, some (.ref pu), some (.ref pr), some (.ref ps), some (.ref pt), some (.ref minus), some (.ref two), some (.ref three), none, none, none, none, none, none, none] (by rfl) ?_
    have sA := s1.trans (s2.trans (s3.trans (s4.trans s5)))
    clear s1 s2 s3 s4 s5 gz E0 E1 E2 E3
    refine ⟨.ref pa1, rfl, .ref two, rfl, .ref ps, rfl, ?_⟩
    refine ⟨two, ps, _, _, rfl, E4.get (by walk_at "mm"), E4.get (by walk_at "mm"), (E4.rb (p := two) (by walk_at "mm")).up (by decide), (E4.rb (p := ps) (by walk_at "mm")).up (by decide), trivial, fun x1 nx1 => ?_⟩
    obtain ⟨H6, eH_, s6, E5⟩ := stepE E4 nx1 (RB.mul (E4.rb (p := two) (by walk_at "mm")) (E4.rb (p := ps) (by walk_at "mm")))
    rw [eH_]
    clear eH_
    refine ⟨pa1, x1, _, _, rfl, E5.get (by walk_at "mm"), E5.get (by walk_at "mm"), (E5.rb (p := pa1) (by walk_at "mm")).up (by decide), (E5.rb (p := x1) (by walk_at "mm")).up (by decide), trivial, fun first nfirst => ?_⟩
    obtain ⟨H7, eH_, s7, E6⟩ := stepE E5 nfirst (RB.add (E5.rb (p := pa1) (by walk_at "mm")) (E5.rb (p := x1) (by walk_at "mm")))
    rw [eH_]
    clear eH_
    first | refine sigN [some (.ref p), some (.ref o), some (.ref pa1), some (.ref pa2), some (.ref pa3), some (.ref pa4), some (.ref pa6), none, some (.ref pu), some (.ref pr), some (.ref ps), some (.ref pt), some (.ref minus), some (.ref two), some (.ref three), some (.ref first), none, none, none, none, none, none] (by rfl) ?_ | refine sig [some (.ref p), some (.ref o), some (.ref pa1), some (.ref pa2), some (.ref pa3), some (.ref pa4), some (.ref pa6), none, some (.ref pu), some (.ref pr), some (.ref ps), some (.ref pt), some (.ref minus), some (.ref two), some (.ref three), some (.ref first), none, none, none, none, none, none] (by rfl) ?_
    have sB := sA.trans (s6.trans s7)
    clear s6 s7 sA E4 E5
    refine ⟨.ref pa2, rfl, .ref minus, rfl, .ref ps, rfl, .ref pa1, rfl, ?_⟩
    refine ⟨(by show 3 ≤ sizeLine; decide), fun la nla => ?_⟩
    have E6_l := E6.same (Same.new (o := .lst [.ref minus, .ref ps, .ref pa1]) nla)
    refine ⟨la, _, 97, rfl, lst_of upd_same, (FrL.cons E6_l (p := minus) (by walk_at "mm") (by decide) (FrL.cons E6_l (p := ps) (by walk_at "mm") (by decide) (FrL.cons E6_l (p := pa1) (by walk_at "mm") (by decide) FrL.nil))), (by show 3 * (97 + 1) ≤ 3900; decide), fun H8 x2 s8_0 nx2 hx2 bx2 => ?_⟩
    have s8 := (Same.new (o := .lst [.ref minus, .ref ps, .ref pa1]) nla).trans s8_0
    have E7 := (E6_l.same s8_0).add (m := 295) (tup_of hx2) bx2
    refine ⟨.ref three, rfl, .ref pr, rfl, ?_⟩
    refine ⟨three, pr, _, _, rfl, E7.get (by walk_at "mm"), E7.get (by walk_at "mm"), (E7.rb (p := three) (by walk_at "mm")).up (by decide), (E7.rb (p := pr) (by walk_at "mm")).up (by decide), trivial, fun x3 nx3 => ?_⟩
    obtain ⟨H9, eH_, s9, E8⟩ := stepE E7 nx3 (RB.mul (E7.rb (p := three) (by walk_at "mm")) (E7.rb (p := pr) (by walk_at "mm")))
    rw [eH_]
    clear eH_
    refine ⟨.ref minus, rfl, .ref ps, rfl, .ref ps, rfl, ?_⟩
    refine ⟨(by show 3 ≤ sizeLine; decide), fun lb nlb => ?_⟩
    have E8_l := E8.same (Same.new (o := .lst [.ref minus, .ref ps, .ref ps]) nlb)
    refine ⟨lb, _, 29, rfl, lst_of upd_same, (FrL.cons E8_l (p := minus) (by walk_at "mm") (by decide) (FrL.cons E8_l (p := ps) (by walk_at "mm") (by decide) (FrL.cons E8_l (p := ps) (by walk_at "mm") (by decide) FrL.nil))), (by show 3 * (29 + 1) ≤ 3900; decide), fun Ha x4 sa_0 nx4 hx4 bx4 => ?_⟩
    have sa := (Same.new (o := .lst [.ref minus, .ref ps, .ref ps]) nlb).trans sa_0
    have E9 := (E8_l.same sa_0).add (m := 91) (tup_of hx4) bx4
    refine ⟨(by show 4 ≤ sizeLine; decide), fun lc nlc => ?_⟩
    have E9_l := E9.same (Same.new (o := .lst [.ref pa2, .ref x2, .ref x3, .ref x4]) nlc)
    refine ⟨lc, _, 400, rfl, lst_of upd_same, (FrL.cons E9_l (p := pa2) (by walk_at "mm") (by decide) (FrL.cons E9_l (p := x2) (by walk_at "mm") (by decide) (FrL.cons E9_l (p := x3) (by walk_at "mm") (by decide) (FrL.cons E9_l (p := x4) (by walk_at "mm") (by decide) FrL.nil)))), (by show 4 * (400 + 1) ≤ 3900; decide), fun Hb second sb_0 nsecond hsecond bsecond => ?_⟩
    have sb := (Same.new (o := .lst [.ref pa2, .ref x2, .ref x3, .ref x4]) nlc).trans sb_0
    have E10 := (E9_l.same sb_0).add (m := 1605) (tup_of hsecond) bsecond
    first | refine sigN [some (.ref p), some (.ref o), some (.ref pa1), some (.ref pa2), some (.ref pa3), some (.ref pa4), some (.ref pa6), none, some (.ref pu), some (.ref pr), some (.ref ps), some (.ref pt), some (.ref minus), some (.ref two), some (.ref three), some (.ref first), some (.ref second), none, none, none, none, none] (by rfl) ?_ | refine sig [some (.ref p), some (.ref o), some (.ref pa1), some (.ref pa2), some (.ref pa3), some (.ref pa4), some (.ref pa6), none, some (.ref pu), some (.ref pr), some (.ref ps), some (.ref pt), some (.ref minus), some (.ref two), some (.ref three), some (.ref first), some (.ref second), none, none, none, none, none] (by rfl) ?_
    have sC := sB.trans (s8.trans (s9.trans (sa.trans sb)))
    clear s8 s9 sa sb sB E6 E7 E8 E9 E6_l E8_l E9_l s8_0 sa_0 sb_0 hx2 bx2 hx4 bx4 hsecond bsecond
    refine ⟨.ref pa3, rfl, .ref pr, rfl, .ref pa1, rfl, ?_⟩
    refine ⟨pr, pa1, _, _, rfl, E10.get (by walk_at "mm"), E10.get (by walk_at "mm"), (E10.rb (p := pr) (by walk_at "mm")).up (by decide), (E10.rb (p := pa1) (by walk_at "mm")).up (by decide), trivial, fun x5 nx5 => ?_⟩
    obtain ⟨Hc, eH_, sc, E11⟩ := stepE E10 nx5 (RB.mul (E10.rb (p := pr) (by walk_at "mm")) (E10.rb (p := pa1) (by walk_at "mm")))
    rw [eH_]
    clear eH_
    refine ⟨.ref two, rfl, .ref pt, rfl, ?_⟩
    refine ⟨two, pt, _, _, rfl, E11.get (by walk_at "mm"), E11.get (by walk_at "mm"), (E11.rb (p := two) (by walk_at "mm")).up (by decide), (E11.rb (p := pt) (by walk_at "mm")).up (by decide), trivial, fun x6 nx6 => ?_⟩
    obtain ⟨Hd, eH_, sd, E12⟩ := stepE E11 nx6 (RB.mul (E11.rb (p := two) (by walk_at "mm")) (E11.rb (p := pt) (by walk_at "mm")))
    rw [eH_]
    clear eH_
    refine ⟨(by show 3 ≤ sizeLine; decide), fun ld nld => ?_⟩
    have E12_l := E12.same (Same.new (o := .lst [.ref pa3, .ref x5, .ref x6]) nld)
    refine ⟨ld, _, 130, rfl, lst_of upd_same, (FrL.cons E12_l (p := pa3) (by walk_at "mm") (by decide) (FrL.cons E12_l (p := x5) (by walk_at "mm") (by decide) (FrL.cons E12_l (p := x6) (by walk_at "mm") (by decide) FrL.nil))), (by show 3 * (130 + 1) ≤ 3900; decide), fun He third se_0 nthird hthird bthird => ?_⟩
    have se := (Same.new (o := .lst [.ref pa3, .ref x5, .ref x6]) nld).trans se_0
    have E13 := (E12_l.same se_0).add (m := 394) (tup_of hthird) bthird
    first | refine sigN [some (.ref p), some (.ref o), some (.ref pa1), some (.ref pa2), some (.ref pa3), some (.ref pa4), some (.ref pa6), none, some (.ref pu), some (.ref pr), some (.ref ps), some (.ref pt), some (.ref minus), some (.ref two), some (.ref three), some (.ref first), some (.ref second), some (.ref third), none, none, none, none] (by rfl) ?_ | refine sig [some (.ref p), some (.ref o), some (.ref pa1), some (.ref pa2), some (.ref pa3), some (.ref pa4), some (.ref pa6), none, some (.ref pu), some (.ref pr), some (.ref ps), some (.ref pt), some (.ref minus), some (.ref two), some (.ref three), some (.ref first), some (.ref second), some (.ref third), none, none, none, none] (by rfl) ?_
    have sD := sC.trans (sc.trans (sd.trans se))
    clear sc sd se sC E10 E11 E12 E12_l se_0 hthird bthird
    refine ⟨.ref pa4, rfl, .ref minus, rfl, .ref ps, rfl, .ref pa3, rfl, ?_⟩
    refine ⟨(by show 3 ≤ sizeLine; decide), fun le nle => ?_⟩
    have E13_l := E13.same (Same.new (o := .lst [.ref minus, .ref ps, .ref pa3]) nle)
    refine ⟨le, _, 97, rfl, lst_of upd_same, (FrL.cons E13_l (p := minus) (by walk_at "mm") (by decide) (FrL.cons E13_l (p := ps) (by walk_at "mm") (by decide) (FrL.cons E13_l (p := pa3) (by walk_at "mm") (by decide) FrL.nil))), (by show 3 * (97 + 1) ≤ 3900; decide), fun Hf y1 sf_0 ny1 hy1 by1 => ?_⟩
    have sf := (Same.new (o := .lst [.ref minus, .ref ps, .ref pa3]) nle).trans sf_0
    have E14 := (E13_l.same sf_0).add (m := 295) (tup_of hy1) by1
    refine ⟨.ref two, rfl, .ref pr, rfl, .ref pa2, rfl, ?_⟩
    refine ⟨(by show 3 ≤ sizeLine; decide), fun lf nlf => ?_⟩
    have E14_l := E14.same (Same.new (o := .lst [.ref two, .ref pr, .ref pa2]) nlf)
    refine ⟨lf, _, 97, rfl, lst_of upd_same, (FrL.cons E14_l (p := two) (by walk_at "mm") (by decide) (FrL.cons E14_l (p := pr) (by walk_at "mm") (by decide) (FrL.cons E14_l (p := pa2) (by walk_at "mm") (by decide) FrL.nil))), (by show 3 * (97 + 1) ≤ 3900; decide), fun Hg y2 sg_0 ny2 hy2 by2 => ?_⟩
    have sg := (Same.new (o := .lst [.ref two, .ref pr, .ref pa2]) nlf).trans sg_0
    have E15 := (E14_l.same sg_0).add (m := 295) (tup_of hy2) by2
    refine ⟨.ref minus, rfl, .ref pt, rfl, .ref pr, rfl, .ref ps, rfl, ?_⟩
    refine ⟨pr, ps, _, _, rfl, E15.get (by walk_at "mm"), E15.get (by walk_at "mm"), (E15.rb (p := pr) (by walk_at "mm")).up (by decide), (E15.rb (p := ps) (by walk_at "mm")).up (by decide), trivial, fun y3 ny3 => ?_⟩
    obtain ⟨Hh, eH_, sh, E16⟩ := stepE E15 ny3 (RB.mul (E15.rb (p := pr) (by walk_at "mm")) (E15.rb (p := ps) (by walk_at "mm")))
    rw [eH_]
    clear eH_
    refine ⟨pt, y3, _, _, rfl, E16.get (by walk_at "mm"), E16.get (by walk_at "mm"), (E16.rb (p := pt) (by walk_at "mm")).up (by decide), (E16.rb (p := y3) (by walk_at "mm")).up (by decide), trivial, fun y4 ny4 => ?_⟩
    obtain ⟨Hi, eH_, si, E17⟩ := stepE E16 ny4 (RB.add (E16.rb (p := pt) (by walk_at "mm")) (E16.rb (p := y3) (by walk_at "mm")))
    rw [eH_]
    clear eH_
    refine ⟨.ref pa1, rfl, ?_⟩
    refine ⟨(by show 3 ≤ sizeLine; decide), fun lg nlg => ?_⟩
    have E17_l := E17.same (Same.new (o := .lst [.ref minus, .ref y4, .ref pa1]) nlg)
    refine ⟨lg, _, 97, rfl, lst_of upd_same, (FrL.cons E17_l (p := minus) (by walk_at "mm") (by decide) (FrL.cons E17_l (p := y4) (by walk_at "mm") (by decide) (FrL.cons E17_l (p := pa1) (by walk_at "mm") (by decide) FrL.nil))), (by show 3 * (97 + 1) ≤ 3900; decide), fun Hj y5 sj_0 ny5 hy5 by5 => ?_⟩
    have sj := (Same.new (o := .lst [.ref minus, .ref y4, .ref pa1]) nlg).trans sj_0
    have E18 := (E17_l.same sj_0).add (m := 295) (tup_of hy5) by5
    refine ⟨.ref three, rfl, .ref pr, rfl, .ref pr, rfl, ?_⟩
    refine ⟨(by show 3 ≤ sizeLine; decide), fun lh nlh => ?_⟩
    have E18_l := E18.same (Same.new (o := .lst [.ref three, .ref pr, .ref pr]) nlh)
    refine ⟨lh, _, 29, rfl, lst_of upd_same, (FrL.cons E18_l (p := three) (by walk_at "mm") (by decide) (FrL.cons E18_l (p := pr) (by walk_at "mm") (by decide) (FrL.cons E18_l (p := pr) (by walk_at "mm") (by decide) FrL.nil))), (by show 3 * (29 + 1) ≤ 3900; decide), fun Hk y6 sk_0 ny6 hy6 by6 => ?_⟩
    have sk := (Same.new (o := .lst [.ref three, .ref pr, .ref pr]) nlh).trans sk_0
    have E19 := (E18_l.same sk_0).add (m := 91) (tup_of hy6) by6
    refine ⟨_, rfl, ?_⟩
    refine ⟨(by show 2 ≤ sizeLine; decide), fun m2 nm2 => ?_⟩
    obtain ⟨Hl, eH_, sl, E20⟩ := litE E19 nm2 fq_m2 rb_m2
    rw [eH_]
    clear eH_
    refine ⟨.ref ps, rfl, .ref pt, rfl, ?_⟩
    refine ⟨(by show 3 ≤ sizeLine; decide), fun li nli => ?_⟩
    have E20_l := E20.same (Same.new (o := .lst [.ref m2, .ref ps, .ref pt]) nli)
    refine ⟨li, _, 29, rfl, lst_of upd_same, (FrL.cons E20_l (p := m2) (by walk_at "mm") (by decide) (FrL.cons E20_l (p := ps) (by walk_at "mm") (by decide) (FrL.cons E20_l (p := pt) (by walk_at "mm") (by decide) FrL.nil))), (by show 3 * (29 + 1) ≤ 3900; decide), fun Hm y7 sm_0 ny7 hy7 by7 => ?_⟩
    have sm := (Same.new (o := .lst [.ref m2, .ref ps, .ref pt]) nli).trans sm_0
    have E21 := (E20_l.same sm_0).add (m := 91) (tup_of hy7) by7
    refine ⟨(by show 6 ≤ sizeLine; decide), fun lj nlj => ?_⟩
    have E21_l := E21.same (Same.new (o := .lst [.ref pa4, .ref y1, .ref y2, .ref y5, .ref y6, .ref y7]) nlj)
    refine ⟨lj, _, 300, rfl, lst_of upd_same, (FrL.cons E21_l (p := pa4) (by walk_at "mm") (by decide) (FrL.cons E21_l (p := y1) (by walk_at "mm") (by decide) (FrL.cons E21_l (p := y2) (by walk_at "mm") (by decide) (FrL.cons E21_l (p := y5) (by walk_at "mm") (by decide) (FrL.cons E21_l (p := y6) (by walk_at "mm") (by decide) (FrL.cons E21_l (p := y7) (by walk_at "mm") (by decide) FrL.nil)))))), (by show 6 * (300 + 1) ≤ 3900; decide), fun Hn fourth sn_0 nfourth hfourth bfourth => ?_⟩
    have sn := (Same.new (o := .lst [.ref pa4, .ref y1, .ref y2, .ref y5, .ref y6, .ref y7]) nlj).trans sn_0
    have E22 := (E21_l.same sn_0).add (m := 1807) (tup_of hfourth) bfourth
    first | refine sigN [some (.ref p), some (.ref o), some (.ref pa1), some (.ref pa2), some (.ref pa3), some (.ref pa4), some (.ref pa6), none, some (.ref pu), some (.ref pr), some (.ref ps), some (.ref pt), some (.ref minus), some (.ref two), some (.ref three), some (.ref first), some (.ref second), some (.ref third), some (.ref fourth), none, none, none] (by rfl) ?_ | refine sig [some (.ref p), some (.ref o), some (.ref pa1), some (.ref pa2), some (.ref pa3), some (.ref pa4), some (.ref pa6), none, some (.ref pu), some (.ref pr), some (.ref ps), some (.ref pt), some (.ref minus), some (.ref two), some (.ref three), some (.ref first), some (.ref second), some (.ref third), some (.ref fourth), none, none, none] (by rfl) ?_
    have sE := sD.trans (sf.trans (sg.trans (sh.trans (si.trans (sj.trans (sk.trans (sl.trans (sm.trans sn))))))))
    clear sf sg sh si sj sk sl sm sn sD E13 E14 E15 E16 E17 E18 E19 E20 E21 E13_l E14_l E17_l E18_l E20_l E21_l sf_0 sg_0 sj_0 sk_0 sm_0 sn_0 hy1 by1 hy2 by2 hy5 by5 hy6 by6 hy7 by7 hfourth bfourth
    refine ⟨.ref pa6, rfl, .ref pr, rfl, .ref pa4, rfl, ?_⟩
    refine ⟨pr, pa4, _, _, rfl, E22.get (by walk_at "mm"), E22.get (by walk_at "mm"), (E22.rb (p := pr) (by walk_at "mm")).up (by decide), (E22.rb (p := pa4) (by walk_at "mm")).up (by decide), trivial, fun z1 nz1 => ?_⟩
    obtain ⟨Ho, eH_, so, E23⟩ := stepE E22 nz1 (RB.mul (E22.rb (p := pr) (by walk_at "mm")) (E22.rb (p := pa4) (by walk_at "mm")))
    rw [eH_]
    clear eH_
    refine ⟨.ref pr, rfl, .ref pr, rfl, .ref pa2, rfl, ?_⟩
    refine ⟨(by show 3 ≤ sizeLine; decide), fun lk nlk => ?_⟩
    have E23_l := E23.same (Same.new (o := .lst [.ref pr, .ref pr, .ref pa2]) nlk)
    refine ⟨lk, _, 97, rfl, lst_of upd_same, (FrL.cons E23_l (p := pr) (by walk_at "mm") (by decide) (FrL.cons E23_l (p := pr) (by walk_at "mm") (by decide) (FrL.cons E23_l (p := pa2) (by walk_at "mm") (by decide) FrL.nil))), (by show 3 * (97 + 1) ≤ 3900; decide), fun Hp2 z2 sp2_0 nz2 hz2 bz2 => ?_⟩
    have sp2 := (Same.new (o := .lst [.ref pr, .ref pr, .ref pa2]) nlk).trans sp2_0
    have E24 := (E23_l.same sp2_0).add (m := 295) (tup_of hz2) bz2
    refine ⟨.ref pr, rfl, .ref pr, rfl, .ref pr, rfl, ?_⟩
    refine ⟨(by show 3 ≤ sizeLine; decide), fun ll nll => ?_⟩
    have E24_l := E24.same (Same.new (o := .lst [.ref pr, .ref pr, .ref pr]) nll)
    refine ⟨ll, _, 29, rfl, lst_of upd_same, (FrL.cons E24_l (p := pr) (by walk_at "mm") (by decide) (FrL.cons E24_l (p := pr) (by walk_at "mm") (by decide) (FrL.cons E24_l (p := pr) (by walk_at "mm") (by decide) FrL.nil))), (by show 3 * (29 + 1) ≤ 3900; decide), fun Hq z3 sq_0 nz3 hz3 bz3 => ?_⟩
    have sq := (Same.new (o := .lst [.ref pr, .ref pr, .ref pr]) nll).trans sq_0
    have E25 := (E24_l.same sq_0).add (m := 91) (tup_of hz3) bz3
    refine ⟨.ref minus, rfl, .ref pt, rfl, .ref pa3, rfl, ?_⟩
    refine ⟨(by show 3 ≤ sizeLine; decide), fun lm nlm => ?_⟩
    have E25_l := E25.same (Same.new (o := .lst [.ref minus, .ref pt, .ref pa3]) nlm)
    refine ⟨lm, _, 97, rfl, lst_of upd_same, (FrL.cons E25_l (p := minus) (by walk_at "mm") (by decide) (FrL.cons E25_l (p := pt) (by walk_at "mm") (by decide) (FrL.cons E25_l (p := pa3) (by walk_at "mm") (by decide) FrL.nil))), (by show 3 * (97 + 1) ≤ 3900; decide), fun Hr z4 sr_0 nz4 hz4 bz4 => ?_⟩
    have sr := (Same.new (o := .lst [.ref minus, .ref pt, .ref pa3]) nlm).trans sr_0
    have E26 := (E25_l.same sr_0).add (m := 295) (tup_of hz4) bz4
    refine ⟨.ref minus, rfl, .ref pt, rfl, .ref pt, rfl, ?_⟩
    refine ⟨(by show 3 ≤ sizeLine; decide), fun ln nln => ?_⟩
    have E26_l := E26.same (Same.new (o := .lst [.ref minus, .ref pt, .ref pt]) nln)
    refine ⟨ln, _, 29, rfl, lst_of upd_same, (FrL.cons E26_l (p := minus) (by walk_at "mm") (by decide) (FrL.cons E26_l (p := pt) (by walk_at "mm") (by decide) (FrL.cons E26_l (p := pt) (by walk_at "mm") (by decide) FrL.nil))), (by show 3 * (29 + 1) ≤ 3900; decide), fun Hs z5 ss_0 nz5 hz5 bz5 => ?_⟩
    have ss := (Same.new (o := .lst [.ref minus, .ref pt, .ref pt]) nln).trans ss_0
    have E27 := (E26_l.same ss_0).add (m := 91) (tup_of hz5) bz5
    refine ⟨.ref minus, rfl, .ref pr, rfl, .ref pt, rfl, .ref pa1, rfl, ?_⟩
    refine ⟨(by show 4 ≤ sizeLine; decide), fun lo nlo => ?_⟩
    have E27_l := E27.same (Same.new (o := .lst [.ref minus, .ref pr, .ref pt, .ref pa1]) nlo)
    refine ⟨lo, _, 97, rfl, lst_of upd_same, (FrL.cons E27_l (p := minus) (by walk_at "mm") (by decide) (FrL.cons E27_l (p := pr) (by walk_at "mm") (by decide) (FrL.cons E27_l (p := pt) (by walk_at "mm") (by decide) (FrL.cons E27_l (p := pa1) (by walk_at "mm") (by decide) FrL.nil)))), (by show 4 * (97 + 1) ≤ 3900; decide), fun Ht z6 st_0 nz6 hz6 bz6 => ?_⟩
    have st := (Same.new (o := .lst [.ref minus, .ref pr, .ref pt, .ref pa1]) nlo).trans st_0
    have E28 := (E27_l.same st_0).add (m := 393) (tup_of hz6) bz6
    refine ⟨(by show 7 ≤ sizeLine; decide), fun lp nlp => ?_⟩
    have E28_l := E28.same (Same.new (o := .lst [.ref pa6, .ref z1, .ref z2, .ref z3, .ref z4, .ref z5, .ref z6]) nlp)
    refine ⟨lp, _, 400, rfl, lst_of upd_same, (FrL.cons E28_l (p := pa6) (by walk_at "mm") (by decide) (FrL.cons E28_l (p := z1) (by walk_at "mm") (by decide) (FrL.cons E28_l (p := z2) (by walk_at "mm") (by decide) (FrL.cons E28_l (p := z3) (by walk_at "mm") (by decide) (FrL.cons E28_l (p := z4) (by walk_at "mm") (by decide) (FrL.cons E28_l (p := z5) (by walk_at "mm") (by decide) (FrL.cons E28_l (p := z6) (by walk_at "mm") (by decide) FrL.nil))))))), (by show 7 * (400 + 1) ≤ 3900; decide), fun Hu sixth su_0 nsixth hsixth bsixth => ?_⟩
    have su := (Same.new (o := .lst [.ref pa6, .ref z1, .ref z2, .ref z3, .ref z4, .ref z5, .ref z6]) nlp).trans su_0
    have E29 := (E28_l.same su_0).add (m := 2808) (tup_of hsixth) bsixth
    first | refine sigN [some (.ref p), some (.ref o), some (.ref pa1), some (.ref pa2), some (.ref pa3), some (.ref pa4), some (.ref pa6), none, some (.ref pu), some (.ref pr), some (.ref ps), some (.ref pt), some (.ref minus), some (.ref two), some (.ref three), some (.ref first), some (.ref second), some (.ref third), some (.ref fourth), some (.ref sixth), none, none] (by rfl) ?_ | refine sig [some (.ref p), some (.ref o), some (.ref pa1), some (.ref pa2), some (.ref pa3), some (.ref pa4), some (.ref pa6), none, some (.ref pu), some (.ref pr), some (.ref ps), some (.ref pt), some (.ref minus), some (.ref two), some (.ref three), some (.ref first), some (.ref second), some (.ref third), some (.ref fourth), some (.ref sixth), none, none] (by rfl) ?_
    have sF := sE.trans (so.trans (sp2.trans (sq.trans (sr.trans (ss.trans (st.trans su))))))
    clear so sp2 sq sr ss st su sE E22 E23 E24 E25 E26 E27 E28 E23_l E24_l E25_l E26_l E27_l E28_l sp2_0 sq_0 sr_0 ss_0 st_0 su_0 hz2 bz2 hz3 bz3 hz4 bz4 hz5 bz5 hz6 bz6 hsixth bsixth
    have n1 := hB.u0
    have n2 : d.u * d.u ≠ 0 := qmul_ne n1 n1
    have n3 : d.u * d.u * d.u ≠ 0 := qmul_ne n2 n1
    refine ⟨.ref pu, rfl, .ref pu, rfl, ?_⟩
    refine ⟨pu, pu, _, _, rfl, E29.get (by walk_at "mm"), E29.get (by walk_at "mm"), (E29.rb (p := pu) (by walk_at "mm")).up (by decide), (E29.rb (p := pu) (by walk_at "mm")).up (by decide), trivial, fun uu nuu => ?_⟩
    obtain ⟨Hv, eH_, sv, E30⟩ := stepE E29 nuu (RB.mul (E29.rb (p := pu) (by walk_at "mm")) (E29.rb (p := pu) (by walk_at "mm")))
    rw [eH_]
    clear eH_
    first | refine sigN [some (.ref p), some (.ref o), some (.ref pa1), some (.ref pa2), some (.ref pa3), some (.ref pa4), some (.ref pa6), none, some (.ref pu), some (.ref pr), some (.ref ps), some (.ref pt), some (.ref minus), some (.ref two), some (.ref three), some (.ref first), some (.ref second), some (.ref third), some (.ref fourth), some (.ref sixth), some (.ref uu), none] (by rfl) ?_ | refine sig [some (.ref p), some (.ref o), some (.ref pa1), some (.ref pa2), some (.ref pa3), some (.ref pa4), some (.ref pa6), none, some (.ref pu), some (.ref pr), some (.ref ps), some (.ref pt), some (.ref minus), some (.ref two), some (.ref three), some (.ref first), some (.ref second), some (.ref third), some (.ref fourth), some (.ref sixth), some (.ref uu), none] (by rfl) ?_
    refine ⟨.ref uu, rfl, .ref pu, rfl, ?_⟩
    refine ⟨uu, pu, _, _, rfl, E30.get (by walk_at "mm"), E30.get (by walk_at "mm"), (E30.rb (p := uu) (by walk_at "mm")).up (by decide), (E30.rb (p := pu) (by walk_at "mm")).up (by decide), trivial, fun uuu nuuu => ?_⟩
    obtain ⟨Hw, eH_, sw, E31⟩ := stepE E30 nuuu (RB.mul (E30.rb (p := uu) (by walk_at "mm")) (E30.rb (p := pu) (by walk_at "mm")))
    rw [eH_]
    clear eH_
    first | refine sigN [some (.ref p), some (.ref o), some (.ref pa1), some (.ref pa2), some (.ref pa3), some (.ref pa4), some (.ref pa6), none, some (.ref pu), some (.ref pr), some (.ref ps), some (.ref pt), some (.ref minus), some (.ref two), some (.ref three), some (.ref first), some (.ref second), some (.ref third), some (.ref fourth), some (.ref sixth), some (.ref uu), some (.ref uuu)] (by rfl) ?_ | refine sig [some (.ref p), some (.ref o), some (.ref pa1), some (.ref pa2), some (.ref pa3), some (.ref pa4), some (.ref pa6), none, some (.ref pu), some (.ref pr), some (.ref ps), some (.ref pt), some (.ref minus), some (.ref two), some (.ref three), some (.ref first), some (.ref second), some (.ref third), some (.ref fourth), some (.ref sixth), some (.ref uu), some (.ref uuu)] (by rfl) ?_
    refine ⟨.ref first, rfl, .ref pu, rfl, ?_⟩
    refine ⟨first, pu, _, _, rfl, E31.get (by walk_at "mm"), E31.get (by walk_at "mm"), (E31.rb (p := first) (by walk_at "mm")).up (by decide), (E31.rb (p := pu) (by walk_at "mm")).up (by decide), n1, fun r1 nr1 => ?_⟩
    obtain ⟨Hx, eH_, sx, E32⟩ := stepE E31 nr1 (RB.div n1 (E31.rb (p := first) (by walk_at "mm")) (E31.rb (p := pu) (by walk_at "mm")))
    rw [eH_]
    clear eH_
    refine ⟨.ref second, rfl, .ref uu, rfl, ?_⟩
    refine ⟨second, uu, _, _, rfl, E32.get (by walk_at "mm"), E32.get (by walk_at "mm"), (E32.rb (p := second) (by walk_at "mm")).up (by decide), (E32.rb (p := uu) (by walk_at "mm")).up (by decide), n2, fun r2 nr2 => ?_⟩
    obtain ⟨Hy, eH_, sy, E33⟩ := stepE E32 nr2 (RB.div n2 (E32.rb (p := second) (by walk_at "mm")) (E32.rb (p := uu) (by walk_at "mm")))
    rw [eH_]
    clear eH_
    refine ⟨.ref third, rfl, .ref uuu, rfl, ?_⟩
    refine ⟨third, uuu, _, _, rfl, E33.get (by walk_at "mm"), E33.get (by walk_at "mm"), (E33.rb (p := third) (by walk_at "mm")).up (by decide), (E33.rb (p := uuu) (by walk_at "mm")).up (by decide), n3, fun r3 nr3 => ?_⟩
    obtain ⟨Hz, eH_, sz, E34⟩ := stepE E33 nr3 (RB.div n3 (E33.rb (p := third) (by walk_at "mm")) (E33.rb (p := uuu) (by walk_at "mm")))
    rw [eH_]
    clear eH_
    refine ⟨.ref fourth, rfl, .ref uu, rfl, .ref uu, rfl, ?_⟩
    refine ⟨uu, uu, _, _, rfl, E34.get (by walk_at "mm"), E34.get (by walk_at "mm"), (E34.rb (p := uu) (by walk_at "mm")).up (by decide), (E34.rb (p := uu) (by walk_at "mm")).up (by decide), trivial, fun u4 nu4 => ?_⟩
    obtain ⟨I1, eH_, si1, E35⟩ := stepE E34 nu4 (RB.mul (E34.rb (p := uu) (by walk_at "mm")) (E34.rb (p := uu) (by walk_at "mm")))
    rw [eH_]
    clear eH_
    refine ⟨fourth, u4, _, _, rfl, E35.get (by walk_at "mm"), E35.get (by walk_at "mm"), (E35.rb (p := fourth) (by walk_at "mm")).up (by decide), (E35.rb (p := u4) (by walk_at "mm")).up (by decide), (qmul_ne n2 n2), fun r4 nr4 => ?_⟩
    obtain ⟨I2, eH_, si2, E36⟩ := stepE E35 nr4 (RB.div (qmul_ne n2 n2) (E35.rb (p := fourth) (by walk_at "mm")) (E35.rb (p := u4) (by walk_at "mm")))
    rw [eH_]
    clear eH_
    refine ⟨.ref sixth, rfl, .ref uuu, rfl, .ref uuu, rfl, ?_⟩
    refine ⟨uuu, uuu, _, _, rfl, E36.get (by walk_at "mm"), E36.get (by walk_at "mm"), (E36.rb (p := uuu) (by walk_at "mm")).up (by decide), (E36.rb (p := uuu) (by walk_at "mm")).up (by decide), trivial, fun u6 nu6 => ?_⟩
    obtain ⟨I3, eH_, si3, E37⟩ := stepE E36 nu6 (RB.mul (E36.rb (p := uuu) (by walk_at "mm")) (E36.rb (p := uuu) (by walk_at "mm")))
    rw [eH_]
    clear eH_
    refine ⟨sixth, u6, _, _, rfl, E37.get (by walk_at "mm"), E37.get (by walk_at "mm"), (E37.rb (p := sixth) (by walk_at "mm")).up (by decide), (E37.rb (p := u6) (by walk_at "mm")).up (by decide), (qmul_ne n3 n3), fun r6 nr6 => ?_⟩
    obtain ⟨I4, eH_, si4, E38⟩ := stepE E37 nr6 (RB.div (qmul_ne n3 n3) (E37.rb (p := sixth) (by walk_at "mm")) (E37.rb (p := u6) (by walk_at "mm")))
    rw [eH_]
    clear eH_
    refine ⟨(by show 5 ≤ sizeLine; decide), fun z nz => ?_⟩
    have sZ := Same.new (H := I4) (p := z) (o := .tup [.ref r1, .ref r2, .ref r3, .ref r4, .ref r6]) nz
    have E39 := E38.same sZ
    have g1 := E39.get (p := r1) (by walk_at "mm")
    have g2 := E39.get (p := r2) (by walk_at "mm")
    have g3 := E39.get (p := r3) (by walk_at "mm")
    have g4 := E39.get (p := r4) (by walk_at "mm")
    have g6 := E39.get (p := r6) (by walk_at "mm")
    simp only [List.foldl_cons, List.foldl_nil] at g1 g2 g3 g4 g6
    refine q _ z (sF.trans (sv.trans (sw.trans (sx.trans (sy.trans (sz.trans (si1.trans (si2.trans (si3.trans (si4.trans sZ)))))))))) ⟨r1, r2, r3, r4, r6, upd_same, ?_, ?_, ?_, ?_, ?_⟩
    · exact g1
    · exact sq_eq g2 (by unfold l2; grind)
    · exact sq_eq g3 (by unfold l3; grind)
    · exact sq_eq g4 (by unfold l4; grind)
    · exact sq_eq g6 (by unfold l6; grind)
end
end K12
set_option Elab.async false
set_option linter.all false
set_option maxRecDepth 100000
set_option maxHeartbeats 400000
namespace K12
open PySem PySem.Spec PyProof.Rows L2 Gd QM
theorem pg_tupK {X : Cx} {K : PySem.W.Frag} {es : List Expr} {k : Nat} {t : TGs} {n : Nat} {pos : Pos} (hK : X.K = K) (hc : X.calm = true) (h : PGs X es t)
    (hn : (assignEach es X.env).length = n := by rfl) (hst : (assignEach es X.env).findIdx? (·.1) = none := by rfl) : PG X (.Tuple es k pos) (gTup K n t) := by
  subst hK
  exact pg_tup hc h hn hst
/-! ### five fractions -/
def qsL (d : Ch) (c : Cv) : List Rat := [l1 d c.a1, l2 d c.a1 c.a2, l3 d c.a1 c.a3, l4 d c.a1 c.a2 c.a3 c.a4, l6 d c.a1 c.a2 c.a3 c.a4 c.a6]
/-- refs at fractions -/
def RfAt (K : PySem.W.Frag) (H : Hp) (xs : List V) (qs : List Rat) : Prop := xs.length = qs.length ∧ ∀ (i : Nat) (x : V), xs[i]? = some x → ∃ a q, x = .ref a ∧ qs[i]? = some q ∧ SqT K H a (fq q)
theorem RfAt.same {K : PySem.W.Frag} {H H' : Hp} {xs : List V} {qs : List Rat} (s : Same H H') (h : RfAt K H xs qs) : RfAt K H' xs qs :=
  ⟨h.1, fun i x e => (h.2 i x e).imp fun a z => z.imp fun q y => ⟨y.1, y.2.1, Same.tup s y.2.2⟩⟩
theorem LedAt.rf {K : PySem.W.Frag} {H : Hp} {t : Addr} {d : Ch} {c : Cv} (h : LedAt K H t d c) : ∃ xs, H t = some (.tup xs) ∧ RfAt K H xs (qsL d c) := by
  obtain ⟨p1, p2, p3, p4, p6, h0, h1, h2, h3, h4, h6⟩ := h
  refine ⟨_, h0, rfl, fun i x e => ?_⟩
  match i, e with
  | 0, e =>
    obtain rfl := Option.some.inj e
    exact ⟨p1, _, rfl, rfl, h1⟩
  | 1, e =>
    obtain rfl := Option.some.inj e
    exact ⟨p2, _, rfl, rfl, h2⟩
  | 2, e =>
    obtain rfl := Option.some.inj e
    exact ⟨p3, _, rfl, rfl, h3⟩
  | 3, e =>
    obtain rfl := Option.some.inj e
    exact ⟨p4, _, rfl, rfl, h4⟩
  | 4, e =>
    obtain rfl := Option.some.inj e
    exact ⟨p6, _, rfl, rfl, h6⟩
def AllW (qs : List Rat) : Prop := ∀ q ∈ qs, q.den = 1
theorem take_map {A B : Type} (f : A → B) {qs : List A} {i : Nat} {q : A} (h : qs[i]? = some q) : (qs.take (i + 1)).map f = (qs.take i).map f ++ [f q] := by
  rw [List.take_succ, List.map_append, h]
  rfl
section
variable {P : Program} {w : World} {K : PySem.W.Frag} {mg : Str → Option Value} {base : Heap}
def sp_whole_curve (K : PySem.W.Frag) : Sp := fun vs H Q _ => ∃ (p : Addr) (xs : List V) (qs : List Rat), vs = [.ref p] ∧ SqT K H p xs ∧ RfAt K H xs qs ∧ qs.length = 5 ∧ (AllW qs → ∀ H' t, Same H H' → H' t = some (.tup (qs.map fun q => .int q.num)) → Q (.ref t) H') ∧ (¬ AllW qs → ∀ H', Same H H' → Q .non H')
abbrev s_whole_curve : Stmt := topS 14
theorem sc_whole_curve : FnScope ["fractions", "_", "d", "n"] ["fractions"] (defScope s_whole_curve) := ⟨rfl, rfl, rfl, by decide +kernel, rfl, by decide +kernel, by decide +kernel⟩
theorem k_whole_curve (T : Tx K mg) (D : Df K mg "whole_curve" s_whole_curve ["fractions"])  : Kl P w K mg base 1 "whole_curve" (sp_whole_curve K) := by
  have nd := sc_whole_curve.nd
  refine Kl.by_body D sc_whole_curve (fun vs H Q E h => ?_) (fun f cdv A outer s H vs Q E hr h => ?_)
  · obtain ⟨_, _, _, rfl, _⟩ := h
    rfl
  · obtain ⟨p, xs, qs, rfl, hp, hx, hl, q1, q2⟩ := h
    have hu1 := hu_of hr
    refine ⟨_, (pss_cons (ps_if (pt_val (pe_callB (cr_any rfl) (by rfl) T.any (by decide +kernel) (pa_cons (pe_lc (own := [("_", 1), ("d", 2)]) (g := gTup K 2 (gCons (gName 1) (gCons (gName 2) gNil))) rfl nd (pi_tup (pv 0)) (blkOk_by (N := ["fractions", "_", "d", "n"]) (sc := defScope s_whole_curve) (by decide +kernel)) (fun _ _ _ _ _ => (pg_tupK (K := K) rfl rfl (pgs_cons (pg_name (i := 1) nd rfl (by first | exact Or.inl rfl | exact Or.inr rfl)) (pgs_cons (pg_name (i := 2) nd rfl (by first | exact Or.inl rfl | exact Or.inr rfl)) pgs_nil)))) (fun _ _ _ _ _ => pts_nil) (fun _ _ _ _ _ => (pe_cmpR op_ne (pv 2) pe_int (nomark _)))) pa_nil))) (pss_one (ps_ret pe_non)) pss_nil)
      (pss_one (ps_ret (pe_callTy call_tuple_of (by rfl) T.tuple (by decide +kernel) (pa_cons (pe_lc (own := [("n", 3), ("_", 1)]) (g := gTup K 2 (gCons (gName 3) (gCons (gName 1) gNil))) rfl nd (pi_tup (pv 0)) (blkOk_by (N := ["fractions", "_", "d", "n"]) (sc := defScope s_whole_curve) (by decide +kernel)) (fun _ _ _ _ _ => (pg_tupK (K := K) rfl rfl (pgs_cons (pg_name (i := 3) nd rfl (by first | exact Or.inl rfl | exact Or.inr rfl)) (pgs_cons (pg_name (i := 1) nd rfl (by first | exact Or.inl rfl | exact Or.inr rfl)) pgs_nil)))) (fun _ _ _ _ _ => pts_nil) (fun _ _ _ _ _ => (pv 3))) pa_nil))))), ?_⟩
    have hxl := hx.1
    refine ⟨.ref p, rfl, p, rfl, ⟨_, hp⟩, fun D hD => ?_⟩
    refine lc_tup (K := K) (a := p) (xs := xs) (fun i H2 => Same H H2 ∧ H2 D = some (.lst (((qs.take i).map fun q => decide (q.den ≠ 1)).map V.bl))) ⟨Same.new hD, upd_same⟩ (fun i H2 _ z => Same.tup z.1 hp) (fun i x H2 hi z => ?_) (fun H2 z => ?_)
    · obtain ⟨a, q, rfl, hq, ha⟩ := (hx.same z.1).2 i x hi
      have hi5 : i < 5 := by
        have := (List.getElem?_eq_some_iff.mp hi).1
        omega
      refine ⟨a, _, rfl, ha, rfl, _, _, rfl, _, _, rfl, rfl, rfl, _, rfl, rfl, _, z.2, ?_, Same.put z.1 hD, ?_⟩
      · rw [List.length_map, List.length_map, List.length_take]
        exact small1000 (by omega)
      · rw [upd_same, take_map _ hq, List.map_append]
        have e : (!decide (V.int (q.den : Int) = V.int 1)) = decide (q.den ≠ 1) := by
          rw [Bool.eq_iff_iff]
          simp
          omega
        rw [← e]
        rfl
    · have hfull : qs.take xs.length = qs := by rw [hxl, List.take_length]
      rw [hfull] at z
      refine ⟨D, _, rfl, lst_of z.2, _, rfl, ?_⟩
      by_cases hw : AllW qs
      · refine iteN (by
          rw [List.any_map]
          simp
          exact hw) ?_
        refine ⟨.ref p, rfl, p, rfl, ⟨_, Same.tup z.1 hp⟩, fun D2 hD2 => ?_⟩
        refine lc_tup (K := K) (a := p) (xs := xs) (fun i H3 => Same H2 H3 ∧ H3 D2 = some (.lst ((qs.take i).map fun q => V.int q.num))) ⟨Same.new hD2, upd_same⟩ (fun i H3 _ y => Same.tup y.1 (Same.tup z.1 hp)) (fun i x H3 hi y => ?_) (fun H3 y => ?_)
        · obtain ⟨a, q, rfl, hq, ha⟩ := (hx.same (z.1.trans y.1)).2 i x hi
          have hi5 : i < 5 := by
            have := (List.getElem?_eq_some_iff.mp hi).1
            omega
          refine ⟨a, _, rfl, ha, rfl, _, _, rfl, _, _, rfl, rfl, rfl, _, rfl, _, y.2, ?_, Same.put y.1 hD2, ?_⟩
          · rw [List.length_map, List.length_take]
            exact small1000 (by omega)
          · rw [upd_same, take_map _ hq]
        · rw [hfull] at y
          refine ⟨D2, _, rfl, .inl ⟨lst_of y.2, fun t nt => ?_⟩⟩
          exact q1 hw _ t (z.1.trans (y.1.trans (Same.new nt))) upd_same
      · refine iteY (by
          rw [List.any_map]
          simp
          unfold AllW at hw
          simp at hw
          exact hw) ?_
        exact q2 hw _ z.1
end
end K12
set_option linter.all false
set_option maxRecDepth 100000
namespace K12
open PySem PySem.Spec PyProof.Rows L2 Gd QM
/-! ### the reduced curve -/
def rS (c : Cv) : Int := -(c.a1 / 2)
def rR (c : Cv) : Int := -((c.a2 - rS c * c.a1 - rS c * rS c + 1) / 3)
def rT (c : Cv) : Int := -((c.a3 + rR c * c.a1) / 2)
def moved (c : Cv) (r s t : Int) : Cv := ⟨c.a1 + 2 * s, c.a2 - s * c.a1 + 3 * r - s * s, c.a3 + r * c.a1 + 2 * t, c.a4 - s * c.a3 + 2 * r * c.a2 - (t + r * s) * c.a1 + 3 * r * r - 2 * s * t, c.a6 + r * c.a4 + r * r * c.a2 + r * r * r - t * c.a3 - t * t - r * t * c.a1⟩
def red (c : Cv) : Cv := moved c (rR c) (rS c) (rT c)
structure Rc (c : Cv) : Prop where
  h1 : c.a1 = 0 ∨ c.a1 = 1
  h2 : c.a2 = -1 ∨ c.a2 = 0 ∨ c.a2 = 1
  h3 : c.a3 = 0 ∨ c.a3 = 1
theorem red_rc (c : Cv) : Rc (red c) := by
  refine ⟨?_, ?_, ?_⟩
  · show c.a1 + 2 * rS c = 0 ∨ c.a1 + 2 * rS c = 1
    unfold rS
    omega
  · show c.a2 - rS c * c.a1 + 3 * rR c - rS c * rS c = -1 ∨ c.a2 - rS c * c.a1 + 3 * rR c - rS c * rS c = 0 ∨ c.a2 - rS c * c.a1 + 3 * rR c - rS c * rS c = 1
    unfold rR
    generalize rS c * c.a1 = x
    generalize rS c * rS c = y
    omega
  · show c.a3 + rR c * c.a1 + 2 * rT c = 0 ∨ c.a3 + rR c * c.a1 + 2 * rT c = 1
    unfold rT
    generalize rR c * c.a1 = x
    omega
theorem mv2 (c : Cv) (r s t : Int) : (moved c r s t).b2 = c.b2 + 12 * r := by
  unfold moved Cv.b2
  grind
theorem mv4 (c : Cv) (r s t : Int) : (moved c r s t).b4 = c.b4 + r * c.b2 + 6 * r * r := by
  unfold moved Cv.b4 Cv.b2
  grind
theorem mv6 (c : Cv) (r s t : Int) : (moved c r s t).b6 = c.b6 + 2 * r * c.b4 + r * r * c.b2 + 4 * r * r * r := by
  unfold moved Cv.b6 Cv.b4 Cv.b2
  grind
theorem mvc4 (c : Cv) (r s t : Int) : (moved c r s t).c4 = c.c4 := by
  unfold Cv.c4
  rw [mv2, mv4]
  grind
theorem mvc6 (c : Cv) (r s t : Int) : (moved c r s t).c6 = c.c6 := by
  unfold Cv.c6
  rw [mv2, mv4, mv6]
  grind
theorem b8_eq (c : Cv) : 4 * c.b8 = c.b2 * c.b6 - c.b4 * c.b4 := by
  unfold Cv.b8 Cv.b2 Cv.b4 Cv.b6
  grind
theorem disc_eq (c : Cv) : 1728 * c.disc = c.c4 * c.c4 * c.c4 - c.c6 * c.c6 := by
  have h := b8_eq c
  unfold Cv.disc Cv.c4 Cv.c6
  generalize c.b2 = b2 at *
  generalize c.b4 = b4 at *
  generalize c.b6 = b6 at *
  generalize c.b8 = b8 at *
  have e : b2 * b2 * b8 * 4 = b2 * b2 * (b2 * b6 - b4 * b4) := by rw [← h]; grind
  grind
theorem disc0 (c : Cv) : c.disc = 0 ↔ c.c4 * c.c4 * c.c4 = c.c6 * c.c6 := by
  have := disc_eq c
  omega
theorem red_c4 (c : Cv) : (red c).c4 = c.c4 := mvc4 _ _ _ _
theorem red_c6 (c : Cv) : (red c).c6 = c.c6 := mvc6 _ _ _ _
theorem red_d {c : Cv} (h : c.disc ≠ 0) : (red c).disc ≠ 0 := fun e => h (by
  rw [disc0] at e ⊢
  rw [red_c4, red_c6] at e
  exact e)
theorem b2_of {c : Cv} (h : Rc c) : (c.a1 = 0 ∧ c.a2 = -1 ∧ c.b2 = -4) ∨ (c.a1 = 0 ∧ c.a2 = 0 ∧ c.b2 = 0) ∨ (c.a1 = 0 ∧ c.a2 = 1 ∧ c.b2 = 4) ∨ (c.a1 = 1 ∧ c.a2 = -1 ∧ c.b2 = -3) ∨ (c.a1 = 1 ∧ c.a2 = 0 ∧ c.b2 = 1) ∨ (c.a1 = 1 ∧ c.a2 = 1 ∧ c.b2 = 5) := by
  obtain ⟨h1, h2, h3⟩ := h
  unfold Cv.b2
  rcases h1 with e | e <;> rcases h2 with f | f | f <;> rw [e, f] <;> decide
theorem c4_of (c : Cv) : c.c4 = c.b2 * c.b2 - 24 * c.b4 := rfl
theorem c6_of (c : Cv) : c.c6 = 36 * c.b2 * c.b4 - c.b2 * c.b2 * c.b2 - 216 * c.b6 := rfl
theorem uniq {c d : Cv} (hc : Rc c) (hd : Rc d) (e4 : c.c4 = d.c4) (e6 : c.c6 = d.c6) : c = d := by
  have k1 := b2_of hc
  have k2 := b2_of hd
  rw [c4_of, c4_of] at e4
  rw [c6_of, c6_of] at e6
  have f4 : c.b4 = 2 * c.a4 + c.a1 * c.a3 := rfl
  have g4 : d.b4 = 2 * d.a4 + d.a1 * d.a3 := rfl
  have f6 : c.b6 = c.a3 * c.a3 + 4 * c.a6 := rfl
  have g6 : d.b6 = d.a3 * d.a3 + 4 * d.a6 := rfl
  have h3 := hc.h3
  have l3 := hd.h3
  obtain ⟨a1, a2, a3, a4, a6⟩ := c
  obtain ⟨b1, b2, b3, b4, b6⟩ := d
  simp only [] at *
  generalize Cv.b4 ⟨a1, a2, a3, a4, a6⟩ = u4 at *
  generalize Cv.b6 ⟨a1, a2, a3, a4, a6⟩ = u6 at *
  generalize Cv.b2 ⟨a1, a2, a3, a4, a6⟩ = u2 at *
  generalize Cv.b4 ⟨b1, b2, b3, b4, b6⟩ = v4 at *
  generalize Cv.b6 ⟨b1, b2, b3, b4, b6⟩ = v6 at *
  generalize Cv.b2 ⟨b1, b2, b3, b4, b6⟩ = v2 at *
  have same : a1 = b1 ∧ a2 = b2 ∧ u2 = v2 ∧ (a1 = 0 ∨ a1 = 1) ∧ (u2 = 0 ∨ u2 = 1 ∨ u2 = 4 ∨ u2 = 5 ∨ u2 = -4 ∨ u2 = -3) := by
    rcases k1 with ⟨rfl, rfl, rfl⟩ | ⟨rfl, rfl, rfl⟩ | ⟨rfl, rfl, rfl⟩ | ⟨rfl, rfl, rfl⟩ | ⟨rfl, rfl, rfl⟩ | ⟨rfl, rfl, rfl⟩ <;> rcases k2 with ⟨rfl, rfl, rfl⟩ | ⟨rfl, rfl, rfl⟩ | ⟨rfl, rfl, rfl⟩ | ⟨rfl, rfl, rfl⟩ | ⟨rfl, rfl, rfl⟩ | ⟨rfl, rfl, rfl⟩ <;> clear e4 f4 f6 g4 g6 h3 l3 hc hd <;> omega
  obtain ⟨rfl, rfl, rfl, ha, hb⟩ := same
  clear k1 k2 hc hd
  have e44 : u4 = v4 := by omega
  subst e44
  have e66 : u6 = v6 := by
    generalize 36 * u2 * u4 = z at e6
    omega
  subst e66
  have : a3 = b3 ∧ a4 = b4 ∧ a6 = b6 := by
    rcases ha with rfl | rfl <;> rcases h3 with rfl | rfl <;> rcases l3 with rfl | rfl <;> omega
  obtain ⟨rfl, rfl, rfl⟩ := this
  rfl
/-! ### the pair's curves by trying -/
def cand (c4 c6 : Int) (k : Nat) : Cv :=
  ⟨(k : Int) / 6, (k : Int) % 3 - 1, (k : Int) / 3 - (k : Int) / 6 * 2,
    ((((k : Int) / 6 + 4 * ((k : Int) % 3 - 1)) * ((k : Int) / 6 + 4 * ((k : Int) % 3 - 1)) - c4) / 24 - (k : Int) / 6 * ((k : Int) / 3 - (k : Int) / 6 * 2)) / 2,
    ((36 * ((k : Int) / 6 + 4 * ((k : Int) % 3 - 1)) * ((((k : Int) / 6 + 4 * ((k : Int) % 3 - 1)) * ((k : Int) / 6 + 4 * ((k : Int) % 3 - 1)) - c4) / 24) - ((k : Int) / 6 + 4 * ((k : Int) % 3 - 1)) ^ 3 - c6) / 216 - ((k : Int) / 3 - (k : Int) / 6 * 2)) / 4⟩
def Fits (c4 c6 : Int) (c : Cv) : Prop := c.c4 = c4 ∧ c.c6 = c6 ∧ c.disc ≠ 0
instance (c4 c6 : Int) (c : Cv) : Decidable (Fits c4 c6 c) := inferInstanceAs (Decidable (_ ∧ _ ∧ _))
def pairN (c4 c6 : Int) (n : Nat) : List Cv := ((List.range n).filter fun k => decide (Fits c4 c6 (cand c4 c6 k))).map (cand c4 c6)
theorem pairN_yes {c4 c6 : Int} {n : Nat} (h : Fits c4 c6 (cand c4 c6 n)) : pairN c4 c6 (n + 1) = pairN c4 c6 n ++ [cand c4 c6 n] := by
  unfold pairN
  rw [List.range_succ, List.filter_append, List.map_append, List.filter_cons_of_pos (by simpa using h)]
  rfl
theorem pairN_no {c4 c6 : Int} {n : Nat} (h : ¬ Fits c4 c6 (cand c4 c6 n)) : pairN c4 c6 (n + 1) = pairN c4 c6 n := by
  unfold pairN
  rw [List.range_succ, List.filter_append, List.filter_cons_of_neg (by simpa using h), List.filter_nil, List.append_nil]
theorem pairN_len (c4 c6 : Int) : ∀ n, (pairN c4 c6 n).length ≤ n
  | 0 => Nat.le_refl _
  | n + 1 => by
    by_cases h : Fits c4 c6 (cand c4 c6 n)
    · rw [pairN_yes h, List.length_append]
      exact Nat.add_le_add_right (pairN_len c4 c6 n) 1
    · rw [pairN_no h]
      exact Nat.le_succ_of_le (pairN_len c4 c6 n)
theorem cand_rc (c4 c6 : Int) {k : Nat} (h : k < 12) : Rc (cand c4 c6 k) := by
  refine ⟨?_, ?_, ?_⟩ <;> unfold cand <;> simp only [] <;> omega
theorem cand_self {c : Cv} (h : Rc c) : ∃ k, k < 12 ∧ cand c.c4 c.c6 k = c := by
  have k1 := b2_of h
  have e4 := c4_of c
  have e6 := c6_of c
  have f4 : c.b4 = 2 * c.a4 + c.a1 * c.a3 := rfl
  have f6 : c.b6 = c.a3 * c.a3 + 4 * c.a6 := rfl
  have h3 := h.h3
  obtain ⟨a1, a2, a3, a4, a6⟩ := c
  simp only [] at *
  generalize Cv.c4 ⟨a1, a2, a3, a4, a6⟩ = c4 at *
  generalize Cv.c6 ⟨a1, a2, a3, a4, a6⟩ = c6 at *
  generalize Cv.b4 ⟨a1, a2, a3, a4, a6⟩ = u4 at *
  generalize Cv.b6 ⟨a1, a2, a3, a4, a6⟩ = u6 at *
  generalize Cv.b2 ⟨a1, a2, a3, a4, a6⟩ = u2 at *
  refine ⟨(6 * a1 + 3 * a3 + a2 + 1).toNat, ?_, ?_⟩
  · rcases k1 with ⟨rfl, rfl, rfl⟩ | ⟨rfl, rfl, rfl⟩ | ⟨rfl, rfl, rfl⟩ | ⟨rfl, rfl, rfl⟩ | ⟨rfl, rfl, rfl⟩ | ⟨rfl, rfl, rfl⟩ <;> rcases h3 with rfl | rfl <;> decide
  · clear h
    subst e4 e6 f4 f6
    rcases k1 with ⟨rfl, rfl, rfl⟩ | ⟨rfl, rfl, rfl⟩ | ⟨rfl, rfl, rfl⟩ | ⟨rfl, rfl, rfl⟩ | ⟨rfl, rfl, rfl⟩ | ⟨rfl, rfl, rfl⟩ <;> rcases h3 with rfl | rfl <;> (unfold cand; simp <;> omega)
theorem filter_range {p : Nat → Bool} : ∀ {n k : Nat}, k < n → p k = true → (∀ j, j < n → p j = true → j = k) → (List.range n).filter p = [k]
  | 0, _, h, _, _ => absurd h (Nat.not_lt_zero _)
  | n + 1, k, h, hp, hu => by
    rw [List.range_succ, List.filter_append]
    rcases Nat.lt_or_ge k n with z | z
    · rw [filter_range z hp (fun j hj hq => hu j (by omega) hq), List.filter_cons_of_neg (fun e => by
        have := hu n (by omega) e
        omega)]
      rfl
    · obtain rfl : k = n := by omega
      rw [List.filter_cons_of_pos hp]
      have : (List.range k).filter p = [] := by
        rw [List.filter_eq_nil_iff]
        intro j hj e
        have h1 := List.mem_range.mp hj
        have := hu j (by omega) e
        omega
      rw [this]
      rfl
theorem cand_inj {c4 c6 : Int} {j k : Nat} (hj : j < 12) (hk : k < 12) (h : cand c4 c6 j = cand c4 c6 k) : j = k := by
  have h1 : (cand c4 c6 j).a1 = (cand c4 c6 k).a1 := by rw [h]
  have h2 : (cand c4 c6 j).a2 = (cand c4 c6 k).a2 := by rw [h]
  have h3 : (cand c4 c6 j).a3 = (cand c4 c6 k).a3 := by rw [h]
  clear h
  unfold cand at h1 h2 h3
  simp only [] at h1 h2 h3
  omega
theorem pair_one {c : Cv} (h : Rc c) (hd : c.disc ≠ 0) : pairN c.c4 c.c6 12 = [c] := by
  obtain ⟨k, hk, e⟩ := cand_self h
  unfold pairN
  rw [filter_range hk (by simp; rw [e]; exact ⟨rfl, rfl, hd⟩) (fun j hj hq => by
    simp at hq
    obtain ⟨h4, h6, _⟩ := hq
    refine cand_inj (c4 := c.c4) (c6 := c.c6) hj hk ?_
    rw [e]
    exact uniq (cand_rc _ _ hj) h h4 h6)]
  rw [List.map_cons, e]
  rfl
theorem pair_mem {c4 c6 : Int} {c : Cv} {n : Nat} (hn : n ≤ 12) (h : c ∈ pairN c4 c6 n) : Rc c ∧ Fits c4 c6 c := by
  unfold pairN at h
  obtain ⟨k, hk, rfl⟩ := List.mem_map.mp h
  obtain ⟨h1, h2⟩ := List.mem_filter.mp hk
  have := List.mem_range.mp h1
  exact ⟨cand_rc _ _ (by omega), of_decide_eq_true h2⟩
/-! ### what the program tells -/
def ow (n d : Int) : Option Int := if n % d = 0 then some (n / d) else none
def toldL (c4 c6 : Int) : List Int → Option (Int × Int × Int)
  | [] => none
  | b :: bs => if (b + c6) % 12 = 0 then
      match ow (b * b - c4) 24 with
      | none => none
      | some b4 => match ow (36 * b * b4 - b * b * b - c6) 216 with
        | none => none
        | some b6 => some (b, b4, b6)
    else toldL c4 c6 bs
def told (c4 c6 : Int) : Option (Int × Int × Int) := toldL c4 c6 [0, 1, 4, 5, -4, -3]
def curveOf (c4 c6 : Int) : Option Cv :=
  match told c4 c6 with
  | none => none
  | some (b2, b4, b6) => if c4 * c4 * c4 = c6 * c6 then none else
    match ow (b4 - b2 % 2 * (b6 % 2)) 2 with
    | none => none
    | some a4 => match ow (b6 - b6 % 2) 4 with
      | none => none
      | some a6 => some ⟨b2 % 2, (b2 - b2 % 2) / 4, b6 % 2, a4, a6⟩
theorem ow_some {n d k : Int} (h : ow n d = some k) : n = d * k := by
  unfold ow at h
  by_cases z : n % d = 0
  · rw [if_pos z] at h
    obtain rfl := Option.some.inj h
    have := Int.mul_ediv_add_emod n d
    omega
  · rw [if_neg z] at h
    cases h
theorem ow_mul {d k : Int} (hd : d ≠ 0) : ow (d * k) d = some k := by
  unfold ow
  rw [if_pos (Int.mul_emod_right d k), Int.mul_ediv_cancel_left k hd]
theorem ow_is {n d k : Int} (hd : d ≠ 0) (h : n = d * k) : ow n d = some k := by rw [h, ow_mul hd]
theorem toldL_some {c4 c6 : Int} : ∀ {bs : List Int} {b2 b4 b6 : Int}, toldL c4 c6 bs = some (b2, b4, b6) → b2 ∈ bs ∧ b2 * b2 - c4 = 24 * b4 ∧ 36 * b2 * b4 - b2 * b2 * b2 - c6 = 216 * b6
  | [], _, _, _, h => by cases h
  | b :: bs, b2, b4, b6, h => by
    unfold toldL at h
    by_cases z : (b + c6) % 12 = 0
    · rw [if_pos z] at h
      cases e : ow (b * b - c4) 24 with
      | none =>
        rw [e] at h
        cases h
      | some x =>
        rw [e] at h
        simp only [] at h
        cases f : ow (36 * b * x - b * b * b - c6) 216 with
        | none =>
          rw [f] at h
          cases h
        | some y =>
          rw [f] at h
          simp only [Option.some.injEq, Prod.mk.injEq] at h
          obtain ⟨rfl, rfl, rfl⟩ := h
          exact ⟨List.mem_cons_self, ow_some e, ow_some f⟩
    · rw [if_neg z] at h
      obtain ⟨h1, h2⟩ := toldL_some h
      exact ⟨List.mem_cons_of_mem _ h1, h2⟩
theorem curve_some {c4 c6 : Int} {c : Cv} (h : curveOf c4 c6 = some c) : Rc c ∧ Fits c4 c6 c := by
  unfold curveOf at h
  cases e : told c4 c6 with
  | none =>
    rw [e] at h
    cases h
  | some t =>
    obtain ⟨b2, b4, b6⟩ := t
    rw [e] at h
    simp only [] at h
    obtain ⟨hm, e4, e6⟩ := toldL_some e
    by_cases z : c4 * c4 * c4 = c6 * c6
    · rw [if_pos z] at h
      cases h
    · rw [if_neg z] at h
      cases f : ow (b4 - b2 % 2 * (b6 % 2)) 2 with
      | none =>
        rw [f] at h
        cases h
      | some a4 =>
        rw [f] at h
        simp only [] at h
        cases g : ow (b6 - b6 % 2) 4 with
        | none =>
          rw [g] at h
          cases h
        | some a6 =>
          rw [g] at h
          simp only [Option.some.injEq] at h
          subst h
          have f' := ow_some f
          have g' := ow_some g
          simp only [List.mem_cons, List.not_mem_nil, or_false] at hm
          have hb : Cv.b2 ⟨b2 % 2, (b2 - b2 % 2) / 4, b6 % 2, a4, a6⟩ = b2 := by
            unfold Cv.b2
            rcases hm with rfl | rfl | rfl | rfl | rfl | rfl <;> rfl
          have hb4 : Cv.b4 ⟨b2 % 2, (b2 - b2 % 2) / 4, b6 % 2, a4, a6⟩ = b4 := by
            unfold Cv.b4
            simp only []
            omega
          have hb6 : Cv.b6 ⟨b2 % 2, (b2 - b2 % 2) / 4, b6 % 2, a4, a6⟩ = b6 := by
            unfold Cv.b6
            simp only []
            rcases Int.emod_two_eq b6 with q | q <;> rw [q] at g' ⊢ <;> omega
          have hc4 : Cv.c4 ⟨b2 % 2, (b2 - b2 % 2) / 4, b6 % 2, a4, a6⟩ = c4 := by
            rw [c4_of, hb, hb4]
            omega
          have hc6 : Cv.c6 ⟨b2 % 2, (b2 - b2 % 2) / 4, b6 % 2, a4, a6⟩ = c6 := by
            rw [c6_of, hb, hb4, hb6]
            omega
          refine ⟨⟨?_, ?_, ?_⟩, hc4, hc6, fun d => z ?_⟩
          · show b2 % 2 = 0 ∨ b2 % 2 = 1
            omega
          · show (b2 - b2 % 2) / 4 = -1 ∨ (b2 - b2 % 2) / 4 = 0 ∨ (b2 - b2 % 2) / 4 = 1
            rcases hm with rfl | rfl | rfl | rfl | rfl | rfl <;> decide
          · show b6 % 2 = 0 ∨ b6 % 2 = 1
            omega
          · rw [disc0, hc4, hc6] at d
            exact d
theorem curve_rc {c : Cv} (h : Rc c) (hd : c.disc ≠ 0) : curveOf c.c4 c.c6 = some c := by
  have k1 := b2_of h
  have e4 := c4_of c
  have e6 := c6_of c
  have f4 : c.b4 = 2 * c.a4 + c.a1 * c.a3 := rfl
  have f6 : c.b6 = c.a3 * c.a3 + 4 * c.a6 := rfl
  have h3 := h.h3
  have hz : ¬ c.c4 * c.c4 * c.c4 = c.c6 * c.c6 := fun e => hd (disc0 c |>.mpr e)
  clear h hd
  obtain ⟨a1, a2, a3, a4, a6⟩ := c
  simp only [] at *
  generalize Cv.c4 ⟨a1, a2, a3, a4, a6⟩ = c4 at *
  generalize Cv.c6 ⟨a1, a2, a3, a4, a6⟩ = c6 at *
  generalize Cv.b4 ⟨a1, a2, a3, a4, a6⟩ = u4 at *
  generalize Cv.b6 ⟨a1, a2, a3, a4, a6⟩ = u6 at *
  generalize Cv.b2 ⟨a1, a2, a3, a4, a6⟩ = u2 at *
  have ht : told c4 c6 = some (u2, u4, u6) := by
    have s4 : ow (u2 * u2 - c4) 24 = some u4 := ow_is (by decide) (by omega)
    have s6 : ow (36 * u2 * u4 - u2 * u2 * u2 - c6) 216 = some u6 := ow_is (by decide) (by omega)
    have hh : ∀ bs : List Int, toldL c4 c6 (u2 :: bs) = some (u2, u4, u6) := fun bs => by
      unfold toldL
      rw [if_pos (by
        subst e6
        rcases k1 with ⟨_, _, rfl⟩ | ⟨_, _, rfl⟩ | ⟨_, _, rfl⟩ | ⟨_, _, rfl⟩ | ⟨_, _, rfl⟩ | ⟨_, _, rfl⟩ <;> omega), s4]
      simp only []
      rw [s6]
    have hs : ∀ (b : Int) (bs : List Int), ¬ (b + c6) % 12 = 0 → toldL c4 c6 (b :: bs) = toldL c4 c6 bs := fun b bs q => by
      rw [toldL, if_neg q]
    unfold told
    clear s4 s6 hz e4 f4 f6
    rcases k1 with ⟨_, _, rfl⟩ | ⟨_, _, rfl⟩ | ⟨_, _, rfl⟩ | ⟨_, _, rfl⟩ | ⟨_, _, rfl⟩ | ⟨_, _, rfl⟩
    · rw [hs 0 _ (by omega), hs 1 _ (by omega), hs 4 _ (by omega), hs 5 _ (by omega), hh]
    · rw [hh]
    · rw [hs 0 _ (by omega), hs 1 _ (by omega), hh]
    · rw [hs 0 _ (by omega), hs 1 _ (by omega), hs 4 _ (by omega), hs 5 _ (by omega), hs (-4) _ (by omega), hh]
    · rw [hs 0 _ (by omega), hh]
    · rw [hs 0 _ (by omega), hs 1 _ (by omega), hs 4 _ (by omega), hh]
  unfold curveOf
  rw [ht]
  simp only []
  rw [if_neg hz]
  have p1 : u2 % 2 = a1 := by rcases k1 with ⟨rfl, rfl, rfl⟩ | ⟨rfl, rfl, rfl⟩ | ⟨rfl, rfl, rfl⟩ | ⟨rfl, rfl, rfl⟩ | ⟨rfl, rfl, rfl⟩ | ⟨rfl, rfl, rfl⟩ <;> decide
  have p2 : (u2 - a1) / 4 = a2 := by rcases k1 with ⟨rfl, rfl, rfl⟩ | ⟨rfl, rfl, rfl⟩ | ⟨rfl, rfl, rfl⟩ | ⟨rfl, rfl, rfl⟩ | ⟨rfl, rfl, rfl⟩ | ⟨rfl, rfl, rfl⟩ <;> decide
  have p3 : u6 % 2 = a3 := by rcases h3 with rfl | rfl <;> omega
  rw [p1, p2, p3, ow_is (k := a4) (by decide) (by omega)]
  simp only []
  rw [ow_is (k := a6) (by decide) (by rcases h3 with rfl | rfl <;> omega)]
theorem due_is (c4 c6 : Int) : (pairN c4 c6 12 = [] ∧ curveOf c4 c6 = none) ∨ ∃ c, pairN c4 c6 12 = [c] ∧ curveOf c4 c6 = some c ∧ Rc c ∧ Fits c4 c6 c := by
  cases e : curveOf c4 c6 with
  | none =>
    left
    refine ⟨?_, rfl⟩
    cases f : pairN c4 c6 12 with
    | nil => rfl
    | cons c l =>
      obtain ⟨h1, h4, h6, hd⟩ := pair_mem (c := c) (Nat.le_refl 12) (by rw [f]; exact List.mem_cons_self)
      have := curve_rc h1 hd
      rw [h4, h6, e] at this
      cases this
  | some c =>
    right
    obtain ⟨h1, h4, h6, hd⟩ := curve_some e
    refine ⟨c, ?_, rfl, h1, h4, h6, hd⟩
    have := pair_one h1 hd
    rw [h4, h6] at this
    exact this
theorem curve_sq (e : Int) : curveOf (e * e) (e ^ 3) = none := by
  cases h : curveOf (e * e) (e ^ 3) with
  | none => rfl
  | some c =>
    obtain ⟨_, h4, h6, hd⟩ := curve_some h
    exfalso
    apply hd
    rw [disc0, h4, h6]
    grind
end K12
set_option Elab.async false
set_option linter.all false
set_option maxRecDepth 100000
set_option maxHeartbeats 400000
namespace K12
open PySem PySem.Spec PyProof.Rows L2 Gd QM
local macro_rules | `(tactic| walk_at "bd") => `(tactic| (repeat (first | assumption | apply B.add | apply B.sub | apply B.mul | apply B.neg | exact B.lit (n := 8) (by decide))))
local macro_rules | `(tactic| walk_at "bu") => `(tactic| (apply B.up; walk_at "bd"; decide))
local macro_rules | `(tactic| walk_at "bnd") => `(tactic| (apply B.mulW; walk_at "bd"; decide))
local macro_rules | `(tactic| walk_at "mm") => `(tactic| (repeat (first | exact List.mem_cons_self | apply List.mem_cons_of_mem)))
def chOf (c : Cv) : Ch := ⟨1, ((rR c : Int) : Rat), ((rS c : Int) : Rat), ((rT c : Int) : Rat)⟩
theorem qs_red (c : Cv) : qsL (chOf c) c = (red c).ints.map (fun n : Int => (n : Rat)) := by
  unfold qsL chOf l1 l2 l3 l4 l6 red moved Cv.ints
  simp only [List.map_cons, List.map_nil, List.cons.injEq, and_true]
  push_cast
  refine ⟨?_, ?_, ?_, ?_, ?_⟩ <;> grind
theorem allW_ints (ns : List Int) : AllW (ns.map fun n : Int => (n : Rat)) := by
  intro q hq
  obtain ⟨n, _, rfl⟩ := List.mem_map.mp hq
  exact Rat.den_intCast n
theorem num_ints (ns : List Int) : ((ns.map fun n : Int => (n : Rat)).map fun q => V.int q.num) = ns.map V.int := by
  rw [List.map_map]
  exact List.map_congr_left fun n _ => congrArg V.int (Rat.num_intCast n)
theorem Cv.Sm.s {c : Cv} (h : c.Sm) : B 10 (rS c) := by
  have := h.h1
  unfold rS
  unfold B at *
  omega
theorem Cv.Sm.r {c : Cv} (h : c.Sm) : B 19 (rR c) := by
  have hs : (rS c).natAbs ≤ 512 := by
    have := h.h1
    unfold rS
    unfold B at *
    omega
  have ha : c.a1.natAbs ≤ 1023 := by
    have := h.h1
    unfold B at *
    omega
  have h1 : (rS c * c.a1).natAbs ≤ 512 * 1023 := by
    rw [Int.natAbs_mul]
    exact Nat.mul_le_mul hs ha
  have h2 : (rS c * rS c).natAbs ≤ 512 * 512 := by
    rw [Int.natAbs_mul]
    exact Nat.mul_le_mul hs hs
  have h3 := h.h2
  unfold rR
  generalize rS c * c.a1 = x at *
  generalize rS c * rS c = y at *
  unfold B at *
  omega
theorem Cv.Sm.t {c : Cv} (h : c.Sm) : B 29 (rT c) := by
  have h1 : B 29 (rR c * c.a1) := h.r.mul h.h1
  have h3 := h.h3
  unfold rT
  generalize rR c * c.a1 = x at *
  unfold B at *
  omega
theorem fq_1 : [V.int 1, V.int 1] = fq 1 := rfl
theorem rb_1 : RB 1 (1 : Rat) := ⟨by decide, by decide⟩
section
variable {P : Program} {w : World} {K : PySem.W.Frag} {mg : Str → Option Value} {base : Heap}
def sp_reduced (K : PySem.W.Frag) : Sp := fun vs H Q _ => ∃ (p : Addr) (c : Cv), vs = [.ref p] ∧ SqT K H p c.tup ∧ c.Sm ∧ ∀ H' t pd po, Same H H' → H' t = some (.tup [.ref pd, .ref po]) → H' pd = some (.tup (red c).tup) → ChAt K H' po (chOf c) → Q (.ref t) H'
abbrev s_reduced : Stmt := topS 17
theorem sc_reduced : FnScope ["curve", "a1", "a2", "a3", "_", "s", "r", "t", "change"] ["curve"] (defScope s_reduced) := ⟨rfl, rfl, rfl, by decide +kernel, rfl, by decide +kernel, by decide +kernel⟩
theorem k_reduced (T : Tx K mg) (D : Df K mg "reduced" s_reduced ["curve"]) (c_five : Kl P w K mg base 1 "five" (sp_five K)) (c_whole_curve : Kl P w K mg base 1 "whole_curve" (sp_whole_curve K)) (c_led : Kl P w K mg base 4 "led" (sp_led K)) : Kl P w K mg base 5 "reduced" (sp_reduced K) := by
  have nd := sc_reduced.nd
  refine Kl.by_body D sc_reduced (fun vs H Q E h => ?_) (fun f cdv A outer s H vs Q E hr h => ?_)
  · obtain ⟨_, _, rfl, _⟩ := h
    rfl
  · obtain ⟨p, c, rfl, hx, hm, q⟩ := h
    have hu1 := hu_of hr
    refine ⟨_, (pss_cons (ps_asg (pe_k c_five  hr (by decide) (by rfl) (pa_cons (pv 0) pa_nil)) (pg_tup rfl (pgs_cons (pg_name (i := 1) nd rfl (by first | exact Or.inl rfl | exact Or.inr rfl)) (pgs_cons (pg_name (i := 2) nd rfl (by first | exact Or.inl rfl | exact Or.inr rfl)) (pgs_cons (pg_name (i := 3) nd rfl (by first | exact Or.inl rfl | exact Or.inr rfl)) (pgs_cons (pg_name (i := 4) nd rfl (by first | exact Or.inl rfl | exact Or.inr rfl)) (pgs_cons (pg_name (i := 4) nd rfl (by first | exact Or.inl rfl | exact Or.inr rfl)) pgs_nil)))))))
      (pss_cons (ps_set (i := 5) nd rfl (by first | exact Or.inl rfl | exact Or.inr rfl) (pe_un un_neg (pe_op op_fdiv (pv 1) pe_int)))
      (pss_cons (ps_set (i := 6) nd rfl (by first | exact Or.inl rfl | exact Or.inr rfl) (pe_un un_neg (pe_op op_fdiv (pe_op op_add (pe_op op_sub (pe_op op_sub (pv 2) (pe_op op_mulW (pv 5) (pv 1))) (pe_op op_mulW (pv 5) (pv 5))) pe_int) pe_int)))
      (pss_cons (ps_set (i := 7) nd rfl (by first | exact Or.inl rfl | exact Or.inr rfl) (pe_un un_neg (pe_op op_fdiv (pe_op op_add (pv 3) (pe_op op_mulW (pv 6) (pv 1))) pe_int)))
      (pss_cons (ps_set (i := 8) nd rfl (by first | exact Or.inl rfl | exact Or.inr rfl) (pe_tup (pa_cons (pe_tup (pa_cons pe_int (pa_cons pe_int pa_nil))) (pa_cons (pe_tup (pa_cons (pv 6) (pa_cons pe_int pa_nil))) (pa_cons (pe_tup (pa_cons (pv 5) (pa_cons pe_int pa_nil))) (pa_cons (pe_tup (pa_cons (pv 7) (pa_cons pe_int pa_nil))) pa_nil))))))
      (pss_one (ps_ret (pe_tup (pa_cons (pe_k c_whole_curve  hr (by decide) (by rfl) (pa_cons (pe_k c_led  hr (by decide) (by rfl) (pa_cons (pv 0) (pa_cons (pv 8) pa_nil))) pa_nil)) (pa_cons (pv 8) pa_nil)))))))))), ?_⟩
    have bs := hm.s
    have br := hm.r
    have bt := hm.t
    refine ⟨.ref p, rfl, p, c, rfl, hx, p, _, rfl, hx, rfl, _, _, rfl, _, _, rfl, _, _, rfl, _, _, rfl, _, _, rfl, rfl, ?_⟩
    have hm' := hm
    obtain ⟨h1, h2, h3, h4, h6⟩ := hm'
    first | refine sigN [some (.ref p), some (.int (c.a1)), some (.int (c.a2)), some (.int (c.a3)), some (.int (c.a6)), none, none, none, none] (by rfl) ?_ | refine sig [some (.ref p), some (.int (c.a1)), some (.int (c.a2)), some (.int (c.a3)), some (.int (c.a6)), none, none, none, none] (by rfl) ?_
    refine ⟨_, rfl, _, _, rfl, rfl, ⟨by decide, by decide⟩, _, rfl, ?_⟩
    first | refine sigN [some (.ref p), some (.int (c.a1)), some (.int (c.a2)), some (.int (c.a3)), some (.int (c.a6)), some (.int (rS c)), none, none, none] (by rfl) ?_ | refine sig [some (.ref p), some (.int (c.a1)), some (.int (c.a2)), some (.int (c.a3)), some (.int (c.a6)), some (.int (rS c)), none, none, none] (by rfl) ?_
    refine ⟨_, rfl, _, rfl, _, rfl, _, _, rfl, rfl, (by walk_at "bnd"), _, _, rfl, rfl, _, rfl, _, rfl, _, _, rfl, rfl, (by walk_at "bnd"), _, _, rfl, rfl, _, _, rfl, rfl, _, _, rfl, rfl, ⟨by decide, by decide⟩, _, rfl, ?_⟩
    first | refine sigN [some (.ref p), some (.int (c.a1)), some (.int (c.a2)), some (.int (c.a3)), some (.int (c.a6)), some (.int (rS c)), some (.int (rR c)), none, none] (by rfl) ?_ | refine sig [some (.ref p), some (.int (c.a1)), some (.int (c.a2)), some (.int (c.a3)), some (.int (c.a6)), some (.int (rS c)), some (.int (rR c)), none, none] (by rfl) ?_
    refine ⟨_, rfl, _, rfl, _, rfl, _, _, rfl, rfl, (by walk_at "bnd"), _, _, rfl, rfl, _, _, rfl, rfl, ⟨by decide, by decide⟩, _, rfl, ?_⟩
    first | refine sigN [some (.ref p), some (.int (c.a1)), some (.int (c.a2)), some (.int (c.a3)), some (.int (c.a6)), some (.int (rS c)), some (.int (rR c)), some (.int (rT c)), none] (by rfl) ?_ | refine sig [some (.ref p), some (.int (c.a1)), some (.int (c.a2)), some (.int (c.a3)), some (.int (c.a6)), some (.int (rS c)), some (.int (rR c)), some (.int (rT c)), none] (by rfl) ?_
    have E0 : FrE K H [] := FrE.nil
    refine ⟨(by show 2 ≤ sizeLine; decide), fun pu npu => ?_⟩
    obtain ⟨H1, eH_, s1, E1⟩ := litE E0 npu fq_1 rb_1
    rw [eH_]
    clear eH_
    refine ⟨_, rfl, ?_⟩
    refine ⟨(by show 2 ≤ sizeLine; decide), fun pr npr => ?_⟩
    obtain ⟨H2, eH_, s2, E2⟩ := litE E1 npr (fq_int (rR c)).symm (RB.int br (by decide))
    rw [eH_]
    clear eH_
    refine ⟨_, rfl, ?_⟩
    refine ⟨(by show 2 ≤ sizeLine; decide), fun ps nps => ?_⟩
    obtain ⟨H3, eH_, s3, E3⟩ := litE E2 nps (fq_int (rS c)).symm (RB.int bs (by decide))
    rw [eH_]
    clear eH_
    refine ⟨_, rfl, ?_⟩
    refine ⟨(by show 2 ≤ sizeLine; decide), fun pt npt => ?_⟩
    obtain ⟨H4, eH_, s4, E4⟩ := litE E3 npt (fq_int (rT c)).symm (RB.int bt (by decide))
    rw [eH_]
    clear eH_
    refine ⟨(by show 4 ≤ sizeLine; decide), fun po npo => ?_⟩
    have s5 := Same.new (H := H4) (p := po) (o := .tup [.ref pu, .ref pr, .ref ps, .ref pt]) npo
    have gpo : upd H4 po (.tup [.ref pu, .ref pr, .ref ps, .ref pt]) po = some (.tup [.ref pu, .ref pr, .ref ps, .ref pt]) := upd_same
    generalize upd H4 po (.tup [.ref pu, .ref pr, .ref ps, .ref pt]) = H5 at s5 gpo ⊢
    have E5 := E4.same s5
    have sA := s1.trans (s2.trans (s3.trans (s4.trans s5)))
    have hch : ChAt K H5 po (chOf c) := ⟨pu, pr, ps, pt, tup_of gpo, E5.get (by walk_at "mm"), E5.get (by walk_at "mm"), E5.get (by walk_at "mm"), E5.get (by walk_at "mm")⟩
    first | refine sigN [some (.ref p), some (.int (c.a1)), some (.int (c.a2)), some (.int (c.a3)), some (.int (c.a6)), some (.int (rS c)), some (.int (rR c)), some (.int (rT c)), some (.ref po)] (by rfl) ?_ | refine sig [some (.ref p), some (.int (c.a1)), some (.int (c.a2)), some (.int (c.a3)), some (.int (c.a6)), some (.int (rS c)), some (.int (rR c)), some (.int (rT c)), some (.ref po)] (by rfl) ?_
    refine ⟨.ref p, rfl, .ref po, rfl, p, po, c, chOf c, rfl, Same.tup sA hx, ⟨h1.up (by decide), h2.up (by decide), h3.up (by decide), h4.up (by decide), h6.up (by decide)⟩, hch, ⟨by show (1 : Rat) ≠ 0; decide, rb_1.up (by decide), (RB.int br (by decide)).up (by decide), (RB.int bs (by decide)).up (by decide), (RB.int bt (by decide)).up (by decide)⟩, fun H6 tl s6 hl => ?_⟩
    obtain ⟨xs, gl, rl⟩ := hl.rf
    rw [qs_red] at rl
    refine ⟨tl, xs, _, rfl, tup_of gl, rl, rfl, fun _ H7 pd s7 gd => ?_, fun hn => absurd (allW_ints _) hn⟩
    rw [num_ints] at gd
    refine ⟨_, rfl, (by show 2 ≤ sizeLine; decide), fun t nt => ?_⟩
    refine q _ t pd po (sA.trans (s6.trans (s7.trans (Same.new nt)))) upd_same (Same.new nt _ _ gd) (((hch.same s6).same s7).same (Same.new nt))
/-! ### over_whole -/
def oV : Option Int → V
  | none => .non
  | some n => .int n
def sp_over_whole (K : PySem.W.Frag) : Sp := fun vs H Q _ => ∃ n d : Int, vs = [.int n, .int d] ∧ 0 < d ∧ d < 1000000 ∧ Q (oV (ow n d)) H
abbrev s_over_whole : Stmt := topS 18
theorem sc_over_whole : FnScope ["n", "d"] ["n", "d"] (defScope s_over_whole) := ⟨rfl, rfl, rfl, by decide +kernel, rfl, by decide +kernel, by decide +kernel⟩
theorem k_over_whole (T : Tx K mg) (D : Df K mg "over_whole" s_over_whole ["n", "d"])  : Kl P w K mg base 1 "over_whole" (sp_over_whole K) := by
  have nd := sc_over_whole.nd
  refine Kl.by_body D sc_over_whole (fun vs H Q E h => ?_) (fun f cdv A outer s H vs Q E hr h => ?_)
  · obtain ⟨_, _, rfl, _⟩ := h
    rfl
  · obtain ⟨n, d, rfl, hd, hb, q⟩ := h
    have hu1 := hu_of hr
    refine ⟨_, (pss_one (ps_ret (pe_ifExp (pt_cmpR op_eq (pe_op op_mod (pv 0) (pv 1)) pe_int (nomark _)) (pe_op op_fdivN (pv 0) (pv 1)) pe_non))), ?_⟩
    refine ⟨_, rfl, _, rfl, _, _, rfl, rfl, hd, rfl, _, rfl, ?_⟩
    rw [dec_int]
    by_cases hz : n % d = 0
    · refine iteY (by simp [hz]) ?_
      have e : ow n d = some (n.fdiv d) := by
        unfold ow
        rw [if_pos hz, Int.fdiv_eq_ediv_of_nonneg _ (by omega)]
      rw [e] at q
      exact ⟨_, rfl, _, rfl, n, d, rfl, rfl, ⟨by omega, by omega⟩, q⟩
    · refine iteN (by simp [hz]) ?_
      have e : ow n d = none := by
        unfold ow
        rw [if_neg hz]
      rw [e] at q
      exact q
end
end K12
set_option Elab.async false
set_option linter.all false
set_option maxRecDepth 100000
set_option maxHeartbeats 400000
namespace K12
open PySem PySem.Spec PyProof.Rows L2 Gd QM
local macro_rules | `(tactic| walk_at "bd") => `(tactic| (repeat (first | assumption | apply B.add | apply B.sub | apply B.mul | apply B.neg | exact B.lit (n := 8) (by decide))))
local macro_rules | `(tactic| walk_at "bu") => `(tactic| (apply B.up; walk_at "bd"; decide))
local macro_rules | `(tactic| walk_at "bnd") => `(tactic| (apply B.mulW; walk_at "bd"; decide))
def sixB : List Int := [0, 1, 4, 5, -4, -3]
theorem sixB_B {b : Int} (h : b ∈ sixB) : B 3 b := by
  unfold sixB at h
  simp only [List.mem_cons, List.not_mem_nil, or_false] at h
  rcases h with rfl | rfl | rfl | rfl | rfl | rfl <;> exact B.lit (by decide)
theorem toldL_yes {c4 c6 b : Int} {bs : List Int} (h : (b + c6) % 12 = 0) : toldL c4 c6 (b :: bs) = match ow (b * b - c4) 24 with
      | none => none
      | some b4 => match ow (36 * b * b4 - b * b * b - c6) 216 with
        | none => none
        | some b6 => some (b, b4, b6) := by
  rw [toldL, if_pos h] <;> rfl
theorem toldL_no {c4 c6 b : Int} {bs : List Int} (h : ¬ (b + c6) % 12 = 0) : toldL c4 c6 (b :: bs) = toldL c4 c6 bs := by
  rw [toldL, if_neg h]
theorem ow_B {m : Nat} {n d k : Int} (hn : B m n) (hd : 0 < d) (h : ow n d = some k) : B m k := by
  have e := ow_some h
  unfold B at *
  have h1 : n.natAbs = d.natAbs * k.natAbs := by rw [e, Int.natAbs_mul]
  have h2 : 1 * k.natAbs ≤ d.natAbs * k.natAbs := Nat.mul_le_mul_right _ (by omega)
  omega
section
variable {P : Program} {w : World} {K : PySem.W.Frag} {mg : Str → Option Value} {base : Heap}
def sp_told_numbers (K : PySem.W.Frag) : Sp := fun vs H Q _ => ∃ c4 c6 : Int, vs = [.int c4, .int c6] ∧ B 100 c4 ∧ B 120 c6 ∧ (told c4 c6 = none → Q .non H) ∧ ∀ b2 b4 b6 t, told c4 c6 = some (b2, b4, b6) → B 3 b2 → B 101 b4 → B 121 b6 → H t = none → Q (.ref t) (upd H t (.tup [.int b2, .int b4, .int b6]))
abbrev s_told_numbers : Stmt := topS 19
theorem sc_told_numbers : FnScope ["c4", "c6", "b2", "b4", "b6"] ["c4", "c6"] (defScope s_told_numbers) := ⟨rfl, rfl, rfl, by decide +kernel, rfl, by decide +kernel, by decide +kernel⟩
theorem k_told_numbers (T : Tx K mg) (D : Df K mg "told_numbers" s_told_numbers ["c4", "c6"]) (c_over_whole : Kl P w K mg base 1 "over_whole" (sp_over_whole K)) : Kl P w K mg base 2 "told_numbers" (sp_told_numbers K) := by
  have nd := sc_told_numbers.nd
  refine Kl.by_body D sc_told_numbers (fun vs H Q E h => ?_) (fun f cdv A outer s H vs Q E hr h => ?_)
  · obtain ⟨_, _, rfl, _⟩ := h
    rfl
  · obtain ⟨c4, c6, rfl, h4, h6, q1, q2⟩ := h
    obtain ⟨aR, hR, gR⟩ := T.c_REDUCED_B2
    have hu1 := hu_of hr
    refine ⟨_, (pss_cons (ps_for PassesOwn.never rfl (pi_tup (pe_kon (by rfl) hR)) (pg_name (i := 2) nd rfl (by first | exact Or.inl rfl | exact Or.inr rfl)) (pss_one (ps_if (pt_cmpR op_eq (pe_op op_mod (pe_op op_add (pv 2) (pv 1)) pe_int) pe_int (nomark _)) (pss_cons (ps_set (i := 3) nd rfl (by first | exact Or.inl rfl | exact Or.inr rfl) (pe_k c_over_whole  hr (by decide) (by rfl) (pa_cons (pe_op op_sub (pe_op op_mulW (pv 2) (pv 2)) (pv 0)) (pa_cons pe_int pa_nil))))
      (pss_cons (ps_if (pt_cmpR op_isN (pv 3) pe_non (nomark _)) (pss_one (ps_ret pe_non)) pss_nil)
      (pss_cons (ps_set (i := 4) nd rfl (by first | exact Or.inl rfl | exact Or.inr rfl) (pe_k c_over_whole  hr (by decide) (by rfl) (pa_cons (pe_op op_sub (pe_op op_sub (pe_op op_mulW (pe_op op_mul pe_int (pv 2)) (pv 3)) (pe_op op_mulW (pe_op op_mulW (pv 2) (pv 2)) (pv 2))) (pv 1)) (pa_cons pe_int pa_nil))))
      (pss_one (ps_ret (pe_ifExp (pt_cmpR op_isN (pv 4) pe_non (nomark _)) pe_non (pe_tup (pa_cons (pv 2) (pa_cons (pv 3) (pa_cons (pv 4) pa_nil)))))))))) pss_nil)))
      (pss_one (ps_ret pe_non))), ?_⟩
    have gR' : ∀ H', SqT K H' aR (sixB.map V.int) := gR
    refine ⟨aR, rfl, ⟨_, gR' H⟩, for_tup (K := K) (a := aR) (xs := sixB.map V.int) (fun i σ H2 => H2 = H ∧ told c4 c6 = toldL c4 c6 (sixB.drop i) ∧ ∃ v, σ = [some (.int c4), some (.int c6), v, none, none]) ⟨rfl, rfl, none, rfl⟩ (fun i σ H2 _ z => gR' H2) ?_ ?_⟩
    · rintro i x σ H2 hi ⟨rfl, ht, v, rfl⟩
      obtain ⟨b, rfl, hb⟩ : ∃ b, x = .int b ∧ sixB[i]? = some b := by
        rw [List.getElem?_map] at hi
        cases e : sixB[i]? with
        | none =>
          rw [e] at hi
          cases hi
        | some y =>
          rw [e] at hi
          exact ⟨y, (Option.some.inj hi).symm, rfl⟩
      have hbm := List.mem_of_getElem? hb
      have bB := sixB_B hbm
      have hdr : sixB.drop i = b :: sixB.drop (i + 1) := by
        obtain ⟨hl, he⟩ := List.getElem?_eq_some_iff.mp hb
        rw [List.drop_eq_getElem_cons hl, he]
      rw [hdr] at ht
      refine ⟨_, rfl, _, rfl, _, _, rfl, rfl, _, _, rfl, rfl, (by show (0 : Int) < 12; decide), rfl, _, rfl, ?_⟩
      rw [dec_int]
      by_cases hz : (b + c6) % 12 = 0
      · refine iteY (by simp [hz]) ?_
        rw [toldL_yes hz] at ht
        refine ⟨_, rfl, _, rfl, _, _, rfl, rfl, (by walk_at "bnd"), _, rfl, _, _, rfl, rfl, _, 24, rfl, by decide, by decide, ?_⟩
        cases e4 : ow (b * b - c4) 24 with
        | none =>
          rw [e4] at ht
          refine ⟨_, rfl, rfl, _, rfl, iteT ?_⟩
          exact q1 ht
        | some b4 =>
          rw [e4] at ht
          simp only [] at ht
          have B4 : B 101 b4 := ow_B (by walk_at "bu") (by decide) e4
          refine ⟨_, rfl, rfl, _, rfl, iteF ?_⟩
          first | refine sigN [some (.int (c4)), some (.int (c6)), some (.int (b)), some (.int (b4)), none] (by rfl) ?_ | refine sig [some (.int (c4)), some (.int (c6)), some (.int (b)), some (.int (b4)), none] (by rfl) ?_
          refine ⟨_, rfl, _, _, rfl, rfl, (Or.inl ⟨by decide, by decide⟩), _, rfl, _, _, rfl, rfl, (by walk_at "bnd"), _, rfl, _, rfl, _, _, rfl, rfl, (by walk_at "bnd"), _, rfl, _, _, rfl, rfl, (by walk_at "bnd"), _, _, rfl, rfl, _, rfl, _, _, rfl, rfl, _, 216, rfl, by decide, by decide, ?_⟩
          cases e6 : ow (36 * b * b4 - b * b * b - c6) 216 with
          | none =>
            rw [e6] at ht
            refine ⟨_, rfl, rfl, _, rfl, iteT ?_⟩
            exact q1 ht
          | some b6 =>
            rw [e6] at ht
            have B6 : B 121 b6 := ow_B (by walk_at "bu") (by decide) e6
            refine ⟨_, rfl, rfl, _, rfl, iteF ?_⟩
            refine ⟨_, rfl, _, rfl, _, rfl, (by show 3 ≤ sizeLine; decide), fun t nt => ?_⟩
            exact q2 b b4 b6 t ht bB B4 B6 nt
      · refine iteN (by simp [hz]) ?_
        rw [toldL_no hz] at ht
        exact ⟨rfl, ht, _, rfl⟩
    · rintro σ H2 ⟨rfl, ht, v, rfl⟩
      exact q1 ht
def sp_curve_of (K : PySem.W.Frag) : Sp := fun vs H Q _ => ∃ c4 c6 : Int, vs = [.int c4, .int c6] ∧ B 100 c4 ∧ B 120 c6 ∧ (curveOf c4 c6 = none → ∀ H', Same H H' → Q .non H') ∧ ∀ c t H', curveOf c4 c6 = some c → Same H H' → H' t = some (.tup c.tup) → Q (.ref t) H'
theorem curve_none_told {c4 c6 : Int} (h : told c4 c6 = none) : curveOf c4 c6 = none := by
  unfold curveOf
  rw [h]
theorem curve_told {c4 c6 b2 b4 b6 : Int} (h : told c4 c6 = some (b2, b4, b6)) : curveOf c4 c6 = if c4 * c4 * c4 = c6 * c6 then none else
    match ow (b4 - b2 % 2 * (b6 % 2)) 2 with
    | none => none
    | some a4 => match ow (b6 - b6 % 2) 4 with
      | none => none
      | some a6 => some ⟨b2 % 2, (b2 - b2 % 2) / 4, b6 % 2, a4, a6⟩ := by
  unfold curveOf
  rw [h] <;> rfl
theorem two_B (x : Int) : B 1 (x % 2) := by
  unfold B
  omega
abbrev s_curve_of : Stmt := topS 20
theorem sc_curve_of : FnScope ["c4", "c6", "told", "b2", "b4", "b6", "a1", "a3", "a4", "a6"] ["c4", "c6"] (defScope s_curve_of) := ⟨rfl, rfl, rfl, by decide +kernel, rfl, by decide +kernel, by decide +kernel⟩
theorem k_curve_of (T : Tx K mg) (D : Df K mg "curve_of" s_curve_of ["c4", "c6"]) (c_told_numbers : Kl P w K mg base 2 "told_numbers" (sp_told_numbers K)) (c_over_whole : Kl P w K mg base 1 "over_whole" (sp_over_whole K)) : Kl P w K mg base 3 "curve_of" (sp_curve_of K) := by
  have nd := sc_curve_of.nd
  refine Kl.by_body D sc_curve_of (fun vs H Q E h => ?_) (fun f cdv A outer s H vs Q E hr h => ?_)
  · obtain ⟨_, _, rfl, _⟩ := h
    rfl
  · obtain ⟨c4, c6, rfl, h4, h6, q1, q2⟩ := h
    have hu1 := hu_of hr
    refine ⟨_, (pss_cons (ps_set (i := 2) nd rfl (by first | exact Or.inl rfl | exact Or.inr rfl) (pe_k c_told_numbers  hr (by decide) (by rfl) (pa_cons (pv 0) (pa_cons (pv 1) pa_nil))))
      (pss_cons (ps_if (PW.pt (pw_or (pt_cmpR op_isN (pv 2) pe_non (nomark _)) (pw_or1 (pt_cmpR op_eq (pe_op op_mulW (pe_op op_mulW (pv 0) (pv 0)) (pv 0)) (pe_op op_mulW (pv 1) (pv 1)) (nomark _))))) (pss_one (ps_ret pe_non)) pss_nil)
      (pss_cons (ps_asg (pv 2) (pg_tup rfl (pgs_cons (pg_name (i := 3) nd rfl (by first | exact Or.inl rfl | exact Or.inr rfl)) (pgs_cons (pg_name (i := 4) nd rfl (by first | exact Or.inl rfl | exact Or.inr rfl)) (pgs_cons (pg_name (i := 5) nd rfl (by first | exact Or.inl rfl | exact Or.inr rfl)) pgs_nil)))))
      (pss_cons (ps_par (i := 6) (j := 7) (by rfl) nd rfl rfl (by decide) rfl rfl (pa_cons (pe_op op_mod (pv 3) pe_int) (pa_cons (pe_op op_mod (pv 5) pe_int) pa_nil)) (by rfl))
      (pss_cons (ps_par (i := 8) (j := 9) (by rfl) nd rfl rfl (by decide) rfl rfl (pa_cons (pe_k c_over_whole  hr (by decide) (by rfl) (pa_cons (pe_op op_sub (pv 4) (pe_op op_mulW (pv 6) (pv 7))) (pa_cons pe_int pa_nil))) (pa_cons (pe_k c_over_whole  hr (by decide) (by rfl) (pa_cons (pe_op op_sub (pv 5) (pv 7)) (pa_cons pe_int pa_nil))) pa_nil)) (by rfl))
      (pss_cons (ps_if (PW.pt (pw_or (pt_cmpR op_isN (pv 8) pe_non (nomark _)) (pw_or1 (pt_cmpR op_isN (pv 9) pe_non (nomark _))))) (pss_one (ps_ret pe_non)) pss_nil)
      (pss_one (ps_ret (pe_tup (pa_cons (pv 6) (pa_cons (pe_op op_fdiv (pe_op op_sub (pv 3) (pv 6)) pe_int) (pa_cons (pv 7) (pa_cons (pv 8) (pa_cons (pv 9) pa_nil)))))))))))))), ?_⟩
    refine ⟨_, rfl, _, rfl, c4, c6, rfl, h4, h6, fun hn => ?_, fun b2 b4 b6 t ht B2 B4 B6 nt => ?_⟩
    · refine ⟨_, rfl, rfl, _, rfl, iteT ?_⟩
      exact q1 (curve_none_told hn) _ (Same.refl H)
    · have hc := curve_told ht
      have s1 := Same.new (H := H) (p := t) (o := .tup [.int b2, .int b4, .int b6]) nt
      have g1 : upd H t (.tup [.int b2, .int b4, .int b6]) t = some (.tup [.int b2, .int b4, .int b6]) := upd_same
      generalize upd H t (.tup [.int b2, .int b4, .int b6]) = H1 at s1 g1 ⊢
      first | refine sigN [some (.int (c4)), some (.int (c6)), some (.ref t), none, none, none, none, none, none, none] (by rfl) ?_ | refine sig [some (.int (c4)), some (.int (c6)), some (.ref t), none, none, none, none, none, none, none] (by rfl) ?_
      refine ⟨_, rfl, rfl, _, rfl, iteF ?_⟩
      refine ⟨_, rfl, _, rfl, _, _, rfl, rfl, (by walk_at "bnd"), _, rfl, _, _, rfl, rfl, (by walk_at "bnd"), _, rfl, _, rfl, _, _, rfl, rfl, (by walk_at "bnd"), rfl, _, rfl, ?_⟩
      rw [dec_int]
      by_cases hz : c4 * c4 * c4 = c6 * c6
      · refine iteY (by simp [hz]) ?_
        rw [if_pos hz] at hc
        exact q1 hc _ s1
      · refine iteN (by simp [hz]) ?_
        rw [if_neg hz] at hc
        refine ⟨.ref t, rfl, t, _, rfl, tup_of g1, rfl, _, _, rfl, _, _, rfl, _, _, rfl, rfl, ?_⟩
        first | refine sigN [some (.int (c4)), some (.int (c6)), some (.ref t), some (.int (b2)), some (.int (b4)), some (.int (b6)), none, none, none, none] (by rfl) ?_ | refine sig [some (.int (c4)), some (.int (c6)), some (.ref t), some (.int (b2)), some (.int (b4)), some (.int (b6)), none, none, none, none] (by rfl) ?_
        refine ⟨_, rfl, _, _, rfl, rfl, (by show (0 : Int) < 2; decide), _, rfl, _, _, rfl, rfl, (by show (0 : Int) < 2; decide), _, _, rfl, ?_⟩
        have t2 := two_B b2
        have t6 := two_B b6
        first | refine sigN [some (.int (c4)), some (.int (c6)), some (.ref t), some (.int (b2)), some (.int (b4)), some (.int (b6)), some (.int (b2 % 2)), some (.int (b6 % 2)), none, none] (by rfl) ?_ | refine sig [some (.int (c4)), some (.int (c6)), some (.ref t), some (.int (b2)), some (.int (b4)), some (.int (b6)), some (.int (b2 % 2)), some (.int (b6 % 2)), none, none] (by rfl) ?_
        refine ⟨_, rfl, _, rfl, _, rfl, _, _, rfl, rfl, (by walk_at "bnd"), _, _, rfl, rfl, _, 2, rfl, by decide, by decide, ?_⟩
        refine ⟨_, rfl, _, rfl, _, _, rfl, rfl, _, 4, rfl, by decide, by decide, ?_⟩
        refine ⟨_, _, rfl, ?_⟩
        cases e4 : ow (b4 - b2 % 2 * (b6 % 2)) 2 with
        | none =>
          rw [e4] at hc
          refine ⟨_, rfl, rfl, _, rfl, iteT ?_⟩
          exact q1 hc _ s1
        | some a4 =>
          rw [e4] at hc
          simp only [] at hc
          refine ⟨_, rfl, rfl, _, rfl, iteF ?_⟩
          cases e6 : ow (b6 - b6 % 2) 4 with
          | none =>
            rw [e6] at hc
            refine ⟨_, rfl, rfl, _, rfl, iteT ?_⟩
            exact q1 hc _ s1
          | some a6 =>
            rw [e6] at hc
            refine ⟨_, rfl, rfl, _, rfl, iteF ?_⟩
            first | refine sigN [some (.int (c4)), some (.int (c6)), some (.ref t), some (.int (b2)), some (.int (b4)), some (.int (b6)), some (.int (b2 % 2)), some (.int (b6 % 2)), some (.int (a4)), some (.int (a6))] (by rfl) ?_ | refine sig [some (.int (c4)), some (.int (c6)), some (.ref t), some (.int (b2)), some (.int (b4)), some (.int (b6)), some (.int (b2 % 2)), some (.int (b6 % 2)), some (.int (a4)), some (.int (a6))] (by rfl) ?_
            refine ⟨_, rfl, _, rfl, _, rfl, _, _, rfl, rfl, _, _, rfl, rfl, ⟨by decide, by decide⟩, _, rfl, _, rfl, _, rfl, (by show 5 ≤ sizeLine; decide), fun z nz => ?_⟩
            exact q2 _ z _ hc (s1.trans (Same.new nz)) upd_same
end
end K12
set_option Elab.async false
set_option linter.all false
set_option maxRecDepth 100000
set_option maxHeartbeats 400000
namespace K12
open PySem PySem.Spec PyProof.Rows L2 Gd QM
local macro_rules | `(tactic| walk_at "mm") => `(tactic| (repeat (first | exact List.mem_cons_self | apply List.mem_cons_of_mem)))
/-- refs at fractions, or nothing -/
def PsAt (K : PySem.W.Frag) (H : Hp) (xs : List V) (ps : List (Option Rat)) : Prop := ∀ (i : Nat) (y : V), xs[i]? = some y → (∃ a q, y = .ref a ∧ ps[i]? = some (some q) ∧ SqT K H a (fq q) ∧ RB 2000 q) ∨ (y = .non ∧ ps[i]? = some none)
theorem PsAt.nil {K : PySem.W.Frag} {H : Hp} : PsAt K H [] [] := fun i y h => by cases h
theorem PsAt.some {K : PySem.W.Frag} {H : Hp} {xs : List V} {ps : List (Option Rat)} {a : Addr} {q : Rat} (h : PsAt K H xs ps) (g : SqT K H a (fq q)) (b : RB 2000 q) : PsAt K H (.ref a :: xs) (.some q :: ps) := fun i y e => by
  cases i with
  | zero =>
    obtain rfl := Option.some.inj e
    exact .inl ⟨a, q, rfl, rfl, g, b⟩
  | succ i => exact h i y e
theorem PsAt.none {K : PySem.W.Frag} {H : Hp} {xs : List V} {ps : List (Option Rat)} (h : PsAt K H xs ps) : PsAt K H (.non :: xs) (.none :: ps) := fun i y e => by
  cases i with
  | zero =>
    obtain rfl := Option.some.inj e
    exact .inr ⟨rfl, rfl⟩
  | succ i => exact h i y e
theorem PsAt.same {K : PySem.W.Frag} {H H' : Hp} {xs : List V} {ps : List (Option Rat)} (s : Same H H') (h : PsAt K H xs ps) : PsAt K H' xs ps := fun i y e => by
  rcases h i y e with ⟨a, q, h1, h2, h3, h4⟩ | z
  · exact .inl ⟨a, q, h1, h2, Same.tup s h3, h4⟩
  · exact .inr z
/-- a list that is being made of fractions -/
def RfD (K : PySem.W.Frag) (H : Hp) (D : Addr) (qs : List Rat) : Prop := ∃ L : List Addr, H D = some (.lst (L.map V.ref)) ∧ RfAt K H (L.map V.ref) qs
theorem fm_some {ps : List (Option Rat)} {i : Nat} {q : Rat} (h : ps[i]? = some (some q)) : (ps.take (i + 1)).filterMap id = (ps.take i).filterMap id ++ [q] := by
  rw [List.take_succ, List.filterMap_append, h]
  rfl
theorem fm_none {ps : List (Option Rat)} {i : Nat} (h : ps[i]? = some none) : (ps.take (i + 1)).filterMap id = (ps.take i).filterMap id := by
  rw [List.take_succ, List.filterMap_append, h]
  exact List.append_nil _
theorem fm_len (ps : List (Option Rat)) (i : Nat) : ((ps.take i).filterMap id).length ≤ i :=
  Nat.le_trans (List.length_filterMap_le _ _) (by rw [List.length_take]; omega)
theorem RfAt.push {K : PySem.W.Frag} {H : Hp} {xs : List V} {qs : List Rat} {t : Addr} {q : Rat} (h : RfAt K H xs qs) (ht : SqT K H t (fq q)) : RfAt K H (xs ++ [.ref t]) (qs ++ [q]) := by
  refine ⟨by rw [List.length_append, List.length_append, h.1]; rfl, fun i x e => ?_⟩
  rcases Nat.lt_or_ge i xs.length with z | z
  · rw [List.getElem?_append_left z] at e
    obtain ⟨a, r, h1, h2, h3⟩ := h.2 i x e
    exact ⟨a, r, h1, by rw [List.getElem?_append_left (by rw [← h.1]; exact z)]; exact h2, h3⟩
  · rw [List.getElem?_append_right z] at e
    have e0 : i - xs.length = 0 := by
      rcases Nat.eq_zero_or_pos (i - xs.length) with y | y
      · exact y
      · rw [List.getElem?_eq_none (by simp; omega)] at e
        cases e
    rw [e0] at e
    obtain rfl := Option.some.inj e
    exact ⟨t, q, rfl, by rw [List.getElem?_append_right (by rw [← h.1]; exact z), ← h.1, e0]; rfl, ht⟩
theorem RfAt.put {K : PySem.W.Frag} {H : Hp} {D : Addr} {L xs : List V} {qs : List Rat} {o : HO} (hD : H D = some (.lst L)) (h : RfAt K H xs qs) : RfAt K (upd H D o) xs qs :=
  ⟨h.1, fun i x e => (h.2 i x e).imp fun a z => z.imp fun q y => ⟨y.1, y.2.1, tup_put hD y.2.2⟩⟩
theorem but_tup {K : PySem.W.Frag} {H H' : Hp} {D p : Addr} {L xs : List V} (b : But D H H') (hD : H D = some (.lst L)) (e : SqT K H p xs) : SqT K H' p xs := by
  rcases e with (e | ⟨z, e⟩) | e
  · exact Or.inl (Or.inl (b _ _ e (ne_of e hD (by intro z; cases z))))
  · exact Or.inl (Or.inr ⟨z, b _ _ e (ne_of e hD (by intro z; cases z))⟩)
  · exact Or.inr e
section
variable {P : Program} {w : World} {K : PySem.W.Frag} {mg : Str → Option Value} {base : Heap}
def sp_law_led (K : PySem.W.Frag) : Sp := fun vs H Q _ => ∃ (p o : Addr) (c : Cv) (d : Ch), vs = [.ref p, .ref o] ∧ SqT K H p c.tup ∧ CvB 30 c ∧ ChAt K H o d ∧ ChB 29 d ∧ d.u = 1 ∧ ∀ H' t xs, Same H H' → H' t = some (.tup xs) → RfAt K H' xs (qsL d c) → Q (.ref t) H'
abbrev s__law_led : Stmt := topS 33
theorem sc__law_led : FnScope ["five_v", "change", "a1", "a2", "a3", "a4", "a6", "part", "u", "r", "s", "t", "second", "third", "fourth", "gone", "sixth", "found", "scale", "k"] ["five_v", "change"] (defScope s__law_led) := ⟨rfl, rfl, rfl, by decide +kernel, rfl, by decide +kernel, by decide +kernel⟩
theorem k_law_led (T : Tx K mg) (D : Df K mg "_law_led" s__law_led ["five_v", "change"]) (c_law_less : Kl P w K mg base 3 "_law_less" (sp_law_less K)) (c_law_plus : Kl P w K mg base 3 "_law_plus" (sp_law_plus K)) (c_law_by : Kl P w K mg base 3 "_law_by" (sp_law_by K)) (c_law_over : Kl P w K mg base 3 "_law_over" (sp_law_over K)) : Kl P w K mg base 4 "_law_led" (sp_law_led K) := by
  have nd := sc__law_led.nd
  refine Kl.by_body D sc__law_led (fun vs H Q E h => ?_) (fun f cdv A outer s H vs Q E hr h => ?_)
  · obtain ⟨_, _, _, _, rfl, _⟩ := h
    rfl
  · obtain ⟨p, o, c, d, rfl, hp, hc, hd, hB, hu1', q⟩ := h
    have hu1 := hu_of hr
    refine ⟨_, (pss_cons (ps_asg (pe_lc (own := [("part", 7)]) (g := gName 7) rfl nd (pi_tup (pv 0)) (blkOk_by (N := ["five_v", "change", "a1", "a2", "a3", "a4", "a6", "part", "u", "r", "s", "t", "second", "third", "fourth", "gone", "sixth", "found", "scale", "k"]) (sc := defScope s__law_led) (by decide +kernel)) (fun _ _ _ _ _ => (pg_name (i := 7) nd rfl (by first | exact Or.inl rfl | exact Or.inr rfl))) (fun _ _ _ _ _ => pts_nil) (fun _ _ _ _ _ => (pe_tup (pa_cons (pv 7) (pa_cons pe_int pa_nil))))) (pg_lst rfl (pgs_cons (pg_name (i := 2) nd rfl (by first | exact Or.inl rfl | exact Or.inr rfl)) (pgs_cons (pg_name (i := 3) nd rfl (by first | exact Or.inl rfl | exact Or.inr rfl)) (pgs_cons (pg_name (i := 4) nd rfl (by first | exact Or.inl rfl | exact Or.inr rfl)) (pgs_cons (pg_name (i := 5) nd rfl (by first | exact Or.inl rfl | exact Or.inr rfl)) (pgs_cons (pg_name (i := 6) nd rfl (by first | exact Or.inl rfl | exact Or.inr rfl)) pgs_nil)))))))
      (pss_cons (ps_asg (pv 1) (pg_tup rfl (pgs_cons (pg_name (i := 8) nd rfl (by first | exact Or.inl rfl | exact Or.inr rfl)) (pgs_cons (pg_name (i := 9) nd rfl (by first | exact Or.inl rfl | exact Or.inr rfl)) (pgs_cons (pg_name (i := 10) nd rfl (by first | exact Or.inl rfl | exact Or.inr rfl)) (pgs_cons (pg_name (i := 11) nd rfl (by first | exact Or.inl rfl | exact Or.inr rfl)) pgs_nil))))))
      (pss_cons (ps_set (i := 12) nd rfl (by first | exact Or.inl rfl | exact Or.inr rfl) (pe_k c_law_less  hr (by decide) (by rfl) (pa_cons (pe_k c_law_less  hr (by decide) (by rfl) (pa_cons (pe_k c_law_plus  hr (by decide) (by rfl) (pa_cons (pv 3) (pa_cons (pe_k c_law_by  hr (by decide) (by rfl) (pa_cons (pe_tup (pa_cons pe_int (pa_cons pe_int pa_nil))) (pa_cons (pv 9) pa_nil))) pa_nil))) (pa_cons (pe_k c_law_by  hr (by decide) (by rfl) (pa_cons (pv 10) (pa_cons (pv 2) pa_nil))) pa_nil))) (pa_cons (pe_k c_law_by  hr (by decide) (by rfl) (pa_cons (pv 10) (pa_cons (pv 10) pa_nil))) pa_nil))))
      (pss_cons (ps_set (i := 13) nd rfl (by first | exact Or.inl rfl | exact Or.inr rfl) (pe_k c_law_plus  hr (by decide) (by rfl) (pa_cons (pe_k c_law_plus  hr (by decide) (by rfl) (pa_cons (pv 4) (pa_cons (pe_k c_law_by  hr (by decide) (by rfl) (pa_cons (pv 9) (pa_cons (pv 2) pa_nil))) pa_nil))) (pa_cons (pe_k c_law_by  hr (by decide) (by rfl) (pa_cons (pe_tup (pa_cons pe_int (pa_cons pe_int pa_nil))) (pa_cons (pv 11) pa_nil))) pa_nil))))
      (pss_cons (ps_set (i := 14) nd rfl (by first | exact Or.inl rfl | exact Or.inr rfl) (pe_k c_law_plus  hr (by decide) (by rfl) (pa_cons (pe_k c_law_plus  hr (by decide) (by rfl) (pa_cons (pv 5) (pa_cons (pe_k c_law_by  hr (by decide) (by rfl) (pa_cons (pe_tup (pa_cons pe_int (pa_cons pe_int pa_nil))) (pa_cons (pe_k c_law_by  hr (by decide) (by rfl) (pa_cons (pv 9) (pa_cons (pv 3) pa_nil))) pa_nil))) pa_nil))) (pa_cons (pe_k c_law_by  hr (by decide) (by rfl) (pa_cons (pe_tup (pa_cons pe_int (pa_cons pe_int pa_nil))) (pa_cons (pe_k c_law_by  hr (by decide) (by rfl) (pa_cons (pv 9) (pa_cons (pv 9) pa_nil))) pa_nil))) pa_nil))))
      (pss_cons (ps_set (i := 15) nd rfl (by first | exact Or.inl rfl | exact Or.inr rfl) (pe_k c_law_plus  hr (by decide) (by rfl) (pa_cons (pe_k c_law_by  hr (by decide) (by rfl) (pa_cons (pe_k c_law_plus  hr (by decide) (by rfl) (pa_cons (pv 11) (pa_cons (pe_k c_law_by  hr (by decide) (by rfl) (pa_cons (pv 9) (pa_cons (pv 10) pa_nil))) pa_nil))) (pa_cons (pv 2) pa_nil))) (pa_cons (pe_k c_law_by  hr (by decide) (by rfl) (pa_cons (pe_tup (pa_cons pe_int (pa_cons pe_int pa_nil))) (pa_cons (pe_k c_law_by  hr (by decide) (by rfl) (pa_cons (pv 10) (pa_cons (pv 11) pa_nil))) pa_nil))) pa_nil))))
      (pss_cons (ps_set (i := 14) nd rfl (by first | exact Or.inl rfl | exact Or.inr rfl) (pe_k c_law_less  hr (by decide) (by rfl) (pa_cons (pe_k c_law_less  hr (by decide) (by rfl) (pa_cons (pv 14) (pa_cons (pe_k c_law_by  hr (by decide) (by rfl) (pa_cons (pv 10) (pa_cons (pv 4) pa_nil))) pa_nil))) (pa_cons (pv 15) pa_nil))))
      (pss_cons (ps_set (i := 16) nd rfl (by first | exact Or.inl rfl | exact Or.inr rfl) (pe_k c_law_plus  hr (by decide) (by rfl) (pa_cons (pe_k c_law_plus  hr (by decide) (by rfl) (pa_cons (pv 6) (pa_cons (pe_k c_law_by  hr (by decide) (by rfl) (pa_cons (pv 9) (pa_cons (pv 5) pa_nil))) pa_nil))) (pa_cons (pe_k c_law_by  hr (by decide) (by rfl) (pa_cons (pe_k c_law_by  hr (by decide) (by rfl) (pa_cons (pv 9) (pa_cons (pv 9) pa_nil))) (pa_cons (pe_k c_law_plus  hr (by decide) (by rfl) (pa_cons (pv 3) (pa_cons (pv 9) pa_nil))) pa_nil))) pa_nil))))
      (pss_cons (ps_set (i := 16) nd rfl (by first | exact Or.inl rfl | exact Or.inr rfl) (pe_k c_law_less  hr (by decide) (by rfl) (pa_cons (pv 16) (pa_cons (pe_k c_law_by  hr (by decide) (by rfl) (pa_cons (pv 11) (pa_cons (pe_k c_law_plus  hr (by decide) (by rfl) (pa_cons (pe_k c_law_plus  hr (by decide) (by rfl) (pa_cons (pv 4) (pa_cons (pv 11) pa_nil))) (pa_cons (pe_k c_law_by  hr (by decide) (by rfl) (pa_cons (pv 9) (pa_cons (pv 2) pa_nil))) pa_nil))) pa_nil))) pa_nil))))
      (pss_cons (ps_par (i := 17) (j := 18) (by rfl) nd rfl rfl (by decide) rfl rfl (pa_cons (pe_lst pa_nil) (pa_cons (pv 8) pa_nil)) (by rfl))
      (pss_cons (ps_for PassesOwn.never rfl (pi_enum (by rfl) T.enumerate (pa_cons (pe_lst (pa_cons (pe_k c_law_plus  hr (by decide) (by rfl) (pa_cons (pv 2) (pa_cons (pe_k c_law_by  hr (by decide) (by rfl) (pa_cons (pe_tup (pa_cons pe_int (pa_cons pe_int pa_nil))) (pa_cons (pv 10) pa_nil))) pa_nil))) (pa_cons (pv 12) (pa_cons (pv 13) (pa_cons (pv 14) (pa_cons pe_non (pa_cons (pv 16) pa_nil))))))) pa_nil)) (pg_tup rfl (pgs_cons (pg_name (i := 19) nd rfl (by first | exact Or.inl rfl | exact Or.inr rfl)) (pgs_cons (pg_name (i := 7) nd rfl (by first | exact Or.inl rfl | exact Or.inr rfl)) pgs_nil))) (pss_cons (ps_if (pt_cmpR op_notN (pv 7) pe_non (nomark _)) (pss_one (ps_expr (pe_bm PySem.F.plainAttrs_list PySem.F.slot_list_append PySem.F.type_list_append mt_append (pv 17) (pa_cons (pe_k c_law_over  hr (by decide) (by rfl) (pa_cons (pv 7) (pa_cons (pv 18) pa_nil))) pa_nil)))) pss_nil)
      (pss_one (ps_set (i := 18) nd rfl (by first | exact Or.inl rfl | exact Or.inr rfl) (pe_k c_law_by  hr (by decide) (by rfl) (pa_cons (pv 18) (pa_cons (pv 8) pa_nil)))))))
      (pss_one (ps_ret (pe_callTy call_tuple_of (by rfl) T.tuple (by decide +kernel) (pa_cons (pv 17) pa_nil))))))))))))))), ?_⟩
    refine ⟨.ref p, rfl, p, rfl, ⟨_, hp⟩, fun D1 hD1 => ?_⟩
    refine lc_tup (K := K) (a := p) (xs := c.tup) (fun i H4 => Same H H4 ∧ FrD H4 D1 c.ints i) ⟨Same.new hD1, FrD.new⟩ (fun i H4 _ z => Same.tup z.1 hp) (fun i x H4 hi z => ?_) (fun H1 z => ?_)
    · obtain ⟨n, rfl, hn⟩ : ∃ n, x = .int n ∧ c.ints[i]? = some n := by
        rw [Cv.tup_ints, List.getElem?_map] at hi
        cases e : c.ints[i]? with
        | none =>
          rw [e] at hi
          cases hi
        | some y =>
          rw [e] at hi
          exact ⟨y, (Option.some.inj hi).symm, rfl⟩
      have hi5 : i < 5 := (List.getElem?_eq_some_iff.mp hn).1
      refine ⟨rfl, _, rfl, (by show 2 ≤ sizeLine; decide), fun t nt => ?_⟩
      rw [← fq_int n]
      obtain ⟨acc, h1, h2, h3⟩ := FrD.push z.2 hn nt (by omega)
      exact ⟨acc, h1, h2, Same.put (Same.put z.1 (z.1.free nt)) hD1, h3⟩
    obtain ⟨s1, hF1⟩ := z
    obtain ⟨pa1, pa2, pa3, pa4, pa6, gD1, hpa1, hpa2, hpa3, hpa4, hpa6⟩ := hF1.five
    refine ⟨D1, _, rfl, lst_of gD1, rfl, _, _, rfl, _, _, rfl, _, _, rfl, _, _, rfl, _, _, rfl, rfl, ?_⟩
    obtain ⟨pu, pr, ps, pt, ho, hu, hr', hs, ht⟩ := hd.same s1
    first | refine sigN [some (.ref p), some (.ref o), some (.ref pa1), some (.ref pa2), some (.ref pa3), some (.ref pa4), some (.ref pa6), none, none, none, none, none, none, none, none, none, none, none, none, none] (by rfl) ?_ | refine sig [some (.ref p), some (.ref o), some (.ref pa1), some (.ref pa2), some (.ref pa3), some (.ref pa4), some (.ref pa6), none, none, none, none, none, none, none, none, none, none, none, none, none] (by rfl) ?_
    refine ⟨.ref o, rfl, o, _, rfl, ho, rfl, _, _, rfl, _, _, rfl, _, _, rfl, _, _, rfl, rfl, ?_⟩
    first | refine sigN [some (.ref p), some (.ref o), some (.ref pa1), some (.ref pa2), some (.ref pa3), some (.ref pa4), some (.ref pa6), none, some (.ref pu), some (.ref pr), some (.ref ps), some (.ref pt), none, none, none, none, none, none, none, none] (by rfl) ?_ | refine sig [some (.ref p), some (.ref o), some (.ref pa1), some (.ref pa2), some (.ref pa3), some (.ref pa4), some (.ref pa6), none, some (.ref pu), some (.ref pr), some (.ref ps), some (.ref pt), none, none, none, none, none, none, none, none] (by rfl) ?_
    rw [hu1'] at hu
    have E0 : FrE K H1 [(pu, 1, 1), (pr, d.r, 29), (ps, d.s, 29), (pt, d.t, 29), (pa1, (c.a1 : Rat), 30), (pa2, (c.a2 : Rat), 30), (pa3, (c.a3 : Rat), 30), (pa4, (c.a4 : Rat), 30), (pa6, (c.a6 : Rat), 30)] :=
      FrE.add (FrE.add (FrE.add (FrE.add (FrE.add (FrE.add (FrE.add (FrE.add (FrE.add FrE.nil (tup_of hpa6) (RB.int hc.h6 (by decide))) (tup_of hpa4) (RB.int hc.h4 (by decide))) (tup_of hpa3) (RB.int hc.h3 (by decide))) (tup_of hpa2) (RB.int hc.h2 (by decide))) (tup_of hpa1) (RB.int hc.h1 (by decide))) ht hB.t) hs hB.s) hr' hB.r) hu rb_1
    clear hpa1 hpa2 hpa3 hpa4 hpa6 gD1 hF1 hD1 ho hu hr' hs ht hd
    refine ⟨.ref pa2, rfl, ?_⟩
    refine ⟨(by show 2 ≤ sizeLine; decide), fun three nthree => ?_⟩
    obtain ⟨H2, eH_, s2, E1⟩ := litE E0 nthree fq_3 rb_three
    rw [eH_]
    clear eH_
    refine ⟨.ref pr, rfl, ?_⟩
    refine ⟨three, pr, _, _, rfl, E1.get (by walk_at "mm"), E1.get (by walk_at "mm"), (E1.rb (p := three) (by walk_at "mm")).up (by decide), (E1.rb (p := pr) (by walk_at "mm")).up (by decide), trivial, fun x1 nx1 => ?_⟩
    obtain ⟨H3, eH_, s3, E2⟩ := stepE E1 nx1 (RB.mul (E1.rb (p := three) (by walk_at "mm")) (E1.rb (p := pr) (by walk_at "mm")))
    rw [eH_]
    clear eH_
    refine ⟨pa2, x1, _, _, rfl, E2.get (by walk_at "mm"), E2.get (by walk_at "mm"), (E2.rb (p := pa2) (by walk_at "mm")).up (by decide), (E2.rb (p := x1) (by walk_at "mm")).up (by decide), trivial, fun x2 nx2 => ?_⟩
    obtain ⟨H4, eH_, s4, E3⟩ := stepE E2 nx2 (RB.add (E2.rb (p := pa2) (by walk_at "mm")) (E2.rb (p := x1) (by walk_at "mm")))
    rw [eH_]
    clear eH_
    refine ⟨.ref ps, rfl, .ref pa1, rfl, ?_⟩
    refine ⟨ps, pa1, _, _, rfl, E3.get (by walk_at "mm"), E3.get (by walk_at "mm"), (E3.rb (p := ps) (by walk_at "mm")).up (by decide), (E3.rb (p := pa1) (by walk_at "mm")).up (by decide), trivial, fun x3 nx3 => ?_⟩
    obtain ⟨H5, eH_, s5, E4⟩ := stepE E3 nx3 (RB.mul (E3.rb (p := ps) (by walk_at "mm")) (E3.rb (p := pa1) (by walk_at "mm")))
    rw [eH_]
    clear eH_
    refine ⟨x2, x3, _, _, rfl, E4.get (by walk_at "mm"), E4.get (by walk_at "mm"), (E4.rb (p := x2) (by walk_at "mm")).up (by decide), (E4.rb (p := x3) (by walk_at "mm")).up (by decide), trivial, fun x4 nx4 => ?_⟩
    obtain ⟨H6, eH_, s6, E5⟩ := stepE E4 nx4 (RB.sub (E4.rb (p := x2) (by walk_at "mm")) (E4.rb (p := x3) (by walk_at "mm")))
    rw [eH_]
    clear eH_
    refine ⟨.ref ps, rfl, .ref ps, rfl, ?_⟩
    refine ⟨ps, ps, _, _, rfl, E5.get (by walk_at "mm"), E5.get (by walk_at "mm"), (E5.rb (p := ps) (by walk_at "mm")).up (by decide), (E5.rb (p := ps) (by walk_at "mm")).up (by decide), trivial, fun x5 nx5 => ?_⟩
    obtain ⟨H7, eH_, s7, E6⟩ := stepE E5 nx5 (RB.mul (E5.rb (p := ps) (by walk_at "mm")) (E5.rb (p := ps) (by walk_at "mm")))
    rw [eH_]
    clear eH_
    refine ⟨x4, x5, _, _, rfl, E6.get (by walk_at "mm"), E6.get (by walk_at "mm"), (E6.rb (p := x4) (by walk_at "mm")).up (by decide), (E6.rb (p := x5) (by walk_at "mm")).up (by decide), trivial, fun second nsecond => ?_⟩
    obtain ⟨H8, eH_, s8, E7⟩ := stepE E6 nsecond (RB.sub (E6.rb (p := x4) (by walk_at "mm")) (E6.rb (p := x5) (by walk_at "mm")))
    rw [eH_]
    clear eH_
    first | refine sigN [some (.ref p), some (.ref o), some (.ref pa1), some (.ref pa2), some (.ref pa3), some (.ref pa4), some (.ref pa6), none, some (.ref pu), some (.ref pr), some (.ref ps), some (.ref pt), some (.ref second), none, none, none, none, none, none, none] (by rfl) ?_ | refine sig [some (.ref p), some (.ref o), some (.ref pa1), some (.ref pa2), some (.ref pa3), some (.ref pa4), some (.ref pa6), none, some (.ref pu), some (.ref pr), some (.ref ps), some (.ref pt), some (.ref second), none, none, none, none, none, none, none] (by rfl) ?_
    have sA := s1.trans (s2.trans (s3.trans (s4.trans (s5.trans (s6.trans (s7.trans s8))))))
    clear s1 s2 s3 s4 s5 s6 s7 s8 E0 E1 E2 E3 E4 E5 E6
    refine ⟨.ref pa3, rfl, .ref pr, rfl, .ref pa1, rfl, ?_⟩
    refine ⟨pr, pa1, _, _, rfl, E7.get (by walk_at "mm"), E7.get (by walk_at "mm"), (E7.rb (p := pr) (by walk_at "mm")).up (by decide), (E7.rb (p := pa1) (by walk_at "mm")).up (by decide), trivial, fun y1 ny1 => ?_⟩
    obtain ⟨H9, eH_, t1, F1⟩ := stepE E7 ny1 (RB.mul (E7.rb (p := pr) (by walk_at "mm")) (E7.rb (p := pa1) (by walk_at "mm")))
    rw [eH_]
    clear eH_
    refine ⟨pa3, y1, _, _, rfl, F1.get (by walk_at "mm"), F1.get (by walk_at "mm"), (F1.rb (p := pa3) (by walk_at "mm")).up (by decide), (F1.rb (p := y1) (by walk_at "mm")).up (by decide), trivial, fun y2 ny2 => ?_⟩
    obtain ⟨Ha, eH_, t2, F2⟩ := stepE F1 ny2 (RB.add (F1.rb (p := pa3) (by walk_at "mm")) (F1.rb (p := y1) (by walk_at "mm")))
    rw [eH_]
    clear eH_
    refine ⟨(by show 2 ≤ sizeLine; decide), fun two ntwo => ?_⟩
    obtain ⟨Hb, eH_, t3, F3⟩ := litE F2 ntwo fq_2 rb_two
    rw [eH_]
    clear eH_
    refine ⟨.ref pt, rfl, ?_⟩
    refine ⟨two, pt, _, _, rfl, F3.get (by walk_at "mm"), F3.get (by walk_at "mm"), (F3.rb (p := two) (by walk_at "mm")).up (by decide), (F3.rb (p := pt) (by walk_at "mm")).up (by decide), trivial, fun y3 ny3 => ?_⟩
    obtain ⟨Hc, eH_, t4, F4⟩ := stepE F3 ny3 (RB.mul (F3.rb (p := two) (by walk_at "mm")) (F3.rb (p := pt) (by walk_at "mm")))
    rw [eH_]
    clear eH_
    refine ⟨y2, y3, _, _, rfl, F4.get (by walk_at "mm"), F4.get (by walk_at "mm"), (F4.rb (p := y2) (by walk_at "mm")).up (by decide), (F4.rb (p := y3) (by walk_at "mm")).up (by decide), trivial, fun third nthird => ?_⟩
    obtain ⟨Hd, eH_, t5, F5⟩ := stepE F4 nthird (RB.add (F4.rb (p := y2) (by walk_at "mm")) (F4.rb (p := y3) (by walk_at "mm")))
    rw [eH_]
    clear eH_
    first | refine sigN [some (.ref p), some (.ref o), some (.ref pa1), some (.ref pa2), some (.ref pa3), some (.ref pa4), some (.ref pa6), none, some (.ref pu), some (.ref pr), some (.ref ps), some (.ref pt), some (.ref second), some (.ref third), none, none, none, none, none, none] (by rfl) ?_ | refine sig [some (.ref p), some (.ref o), some (.ref pa1), some (.ref pa2), some (.ref pa3), some (.ref pa4), some (.ref pa6), none, some (.ref pu), some (.ref pr), some (.ref ps), some (.ref pt), some (.ref second), some (.ref third), none, none, none, none, none, none] (by rfl) ?_
    have sB := sA.trans (t1.trans (t2.trans (t3.trans (t4.trans t5))))
    clear t1 t2 t3 t4 t5 E7 F1 F2 F3 F4 sA
    refine ⟨.ref pa4, rfl, ?_⟩
    refine ⟨(by show 2 ≤ sizeLine; decide), fun twob ntwob => ?_⟩
    obtain ⟨He, eH_, u1, G1⟩ := litE F5 ntwob fq_2 rb_two
    rw [eH_]
    clear eH_
    refine ⟨.ref pr, rfl, .ref pa2, rfl, ?_⟩
    refine ⟨pr, pa2, _, _, rfl, G1.get (by walk_at "mm"), G1.get (by walk_at "mm"), (G1.rb (p := pr) (by walk_at "mm")).up (by decide), (G1.rb (p := pa2) (by walk_at "mm")).up (by decide), trivial, fun z1 nz1 => ?_⟩
    obtain ⟨Hf, eH_, u2, G2⟩ := stepE G1 nz1 (RB.mul (G1.rb (p := pr) (by walk_at "mm")) (G1.rb (p := pa2) (by walk_at "mm")))
    rw [eH_]
    clear eH_
    refine ⟨twob, z1, _, _, rfl, G2.get (by walk_at "mm"), G2.get (by walk_at "mm"), (G2.rb (p := twob) (by walk_at "mm")).up (by decide), (G2.rb (p := z1) (by walk_at "mm")).up (by decide), trivial, fun z2 nz2 => ?_⟩
    obtain ⟨Hg, eH_, u3, G3⟩ := stepE G2 nz2 (RB.mul (G2.rb (p := twob) (by walk_at "mm")) (G2.rb (p := z1) (by walk_at "mm")))
    rw [eH_]
    clear eH_
    refine ⟨pa4, z2, _, _, rfl, G3.get (by walk_at "mm"), G3.get (by walk_at "mm"), (G3.rb (p := pa4) (by walk_at "mm")).up (by decide), (G3.rb (p := z2) (by walk_at "mm")).up (by decide), trivial, fun z3 nz3 => ?_⟩
    obtain ⟨Hh, eH_, u4, G4⟩ := stepE G3 nz3 (RB.add (G3.rb (p := pa4) (by walk_at "mm")) (G3.rb (p := z2) (by walk_at "mm")))
    rw [eH_]
    clear eH_
    refine ⟨(by show 2 ≤ sizeLine; decide), fun threeb nthreeb => ?_⟩
    obtain ⟨Hi, eH_, u5, G5⟩ := litE G4 nthreeb fq_3 rb_three
    rw [eH_]
    clear eH_
    refine ⟨.ref pr, rfl, .ref pr, rfl, ?_⟩
    refine ⟨pr, pr, _, _, rfl, G5.get (by walk_at "mm"), G5.get (by walk_at "mm"), (G5.rb (p := pr) (by walk_at "mm")).up (by decide), (G5.rb (p := pr) (by walk_at "mm")).up (by decide), trivial, fun z4 nz4 => ?_⟩
    obtain ⟨Hj, eH_, u6, G6⟩ := stepE G5 nz4 (RB.mul (G5.rb (p := pr) (by walk_at "mm")) (G5.rb (p := pr) (by walk_at "mm")))
    rw [eH_]
    clear eH_
    refine ⟨threeb, z4, _, _, rfl, G6.get (by walk_at "mm"), G6.get (by walk_at "mm"), (G6.rb (p := threeb) (by walk_at "mm")).up (by decide), (G6.rb (p := z4) (by walk_at "mm")).up (by decide), trivial, fun z5 nz5 => ?_⟩
    obtain ⟨Hk, eH_, u7, G7⟩ := stepE G6 nz5 (RB.mul (G6.rb (p := threeb) (by walk_at "mm")) (G6.rb (p := z4) (by walk_at "mm")))
    rw [eH_]
    clear eH_
    refine ⟨z3, z5, _, _, rfl, G7.get (by walk_at "mm"), G7.get (by walk_at "mm"), (G7.rb (p := z3) (by walk_at "mm")).up (by decide), (G7.rb (p := z5) (by walk_at "mm")).up (by decide), trivial, fun fourtha nfourtha => ?_⟩
    obtain ⟨Hl, eH_, u8, G8⟩ := stepE G7 nfourtha (RB.add (G7.rb (p := z3) (by walk_at "mm")) (G7.rb (p := z5) (by walk_at "mm")))
    rw [eH_]
    clear eH_
    first | refine sigN [some (.ref p), some (.ref o), some (.ref pa1), some (.ref pa2), some (.ref pa3), some (.ref pa4), some (.ref pa6), none, some (.ref pu), some (.ref pr), some (.ref ps), some (.ref pt), some (.ref second), some (.ref third), some (.ref fourtha), none, none, none, none, none] (by rfl) ?_ | refine sig [some (.ref p), some (.ref o), some (.ref pa1), some (.ref pa2), some (.ref pa3), some (.ref pa4), some (.ref pa6), none, some (.ref pu), some (.ref pr), some (.ref ps), some (.ref pt), some (.ref second), some (.ref third), some (.ref fourtha), none, none, none, none, none] (by rfl) ?_
    have sC := sB.trans (u1.trans (u2.trans (u3.trans (u4.trans (u5.trans (u6.trans (u7.trans u8)))))))
    clear u1 u2 u3 u4 u5 u6 u7 u8 F5 G1 G2 G3 G4 G5 G6 G7 sB
    refine ⟨.ref pt, rfl, .ref pr, rfl, .ref ps, rfl, ?_⟩
    refine ⟨pr, ps, _, _, rfl, G8.get (by walk_at "mm"), G8.get (by walk_at "mm"), (G8.rb (p := pr) (by walk_at "mm")).up (by decide), (G8.rb (p := ps) (by walk_at "mm")).up (by decide), trivial, fun w1 nw1 => ?_⟩
    obtain ⟨Hm, eH_, v1, J1⟩ := stepE G8 nw1 (RB.mul (G8.rb (p := pr) (by walk_at "mm")) (G8.rb (p := ps) (by walk_at "mm")))
    rw [eH_]
    clear eH_
    refine ⟨pt, w1, _, _, rfl, J1.get (by walk_at "mm"), J1.get (by walk_at "mm"), (J1.rb (p := pt) (by walk_at "mm")).up (by decide), (J1.rb (p := w1) (by walk_at "mm")).up (by decide), trivial, fun w2 nw2 => ?_⟩
    obtain ⟨Hn, eH_, v2, J2⟩ := stepE J1 nw2 (RB.add (J1.rb (p := pt) (by walk_at "mm")) (J1.rb (p := w1) (by walk_at "mm")))
    rw [eH_]
    clear eH_
    refine ⟨.ref pa1, rfl, ?_⟩
    refine ⟨w2, pa1, _, _, rfl, J2.get (by walk_at "mm"), J2.get (by walk_at "mm"), (J2.rb (p := w2) (by walk_at "mm")).up (by decide), (J2.rb (p := pa1) (by walk_at "mm")).up (by decide), trivial, fun w3 nw3 => ?_⟩
    obtain ⟨Ho, eH_, v3, J3⟩ := stepE J2 nw3 (RB.mul (J2.rb (p := w2) (by walk_at "mm")) (J2.rb (p := pa1) (by walk_at "mm")))
    rw [eH_]
    clear eH_
    refine ⟨(by show 2 ≤ sizeLine; decide), fun twoc ntwoc => ?_⟩
    obtain ⟨Hp2, eH_, v4, J4⟩ := litE J3 ntwoc fq_2 rb_two
    rw [eH_]
    clear eH_
    refine ⟨.ref ps, rfl, .ref pt, rfl, ?_⟩
    refine ⟨ps, pt, _, _, rfl, J4.get (by walk_at "mm"), J4.get (by walk_at "mm"), (J4.rb (p := ps) (by walk_at "mm")).up (by decide), (J4.rb (p := pt) (by walk_at "mm")).up (by decide), trivial, fun w4 nw4 => ?_⟩
    obtain ⟨Hq, eH_, v5, J5⟩ := stepE J4 nw4 (RB.mul (J4.rb (p := ps) (by walk_at "mm")) (J4.rb (p := pt) (by walk_at "mm")))
    rw [eH_]
    clear eH_
    refine ⟨twoc, w4, _, _, rfl, J5.get (by walk_at "mm"), J5.get (by walk_at "mm"), (J5.rb (p := twoc) (by walk_at "mm")).up (by decide), (J5.rb (p := w4) (by walk_at "mm")).up (by decide), trivial, fun w5 nw5 => ?_⟩
    obtain ⟨Hr, eH_, v6, J6⟩ := stepE J5 nw5 (RB.mul (J5.rb (p := twoc) (by walk_at "mm")) (J5.rb (p := w4) (by walk_at "mm")))
    rw [eH_]
    clear eH_
    refine ⟨w3, w5, _, _, rfl, J6.get (by walk_at "mm"), J6.get (by walk_at "mm"), (J6.rb (p := w3) (by walk_at "mm")).up (by decide), (J6.rb (p := w5) (by walk_at "mm")).up (by decide), trivial, fun gone ngone => ?_⟩
    obtain ⟨Hs, eH_, v7, J7⟩ := stepE J6 ngone (RB.add (J6.rb (p := w3) (by walk_at "mm")) (J6.rb (p := w5) (by walk_at "mm")))
    rw [eH_]
    clear eH_
    first | refine sigN [some (.ref p), some (.ref o), some (.ref pa1), some (.ref pa2), some (.ref pa3), some (.ref pa4), some (.ref pa6), none, some (.ref pu), some (.ref pr), some (.ref ps), some (.ref pt), some (.ref second), some (.ref third), some (.ref fourtha), some (.ref gone), none, none, none, none] (by rfl) ?_ | refine sig [some (.ref p), some (.ref o), some (.ref pa1), some (.ref pa2), some (.ref pa3), some (.ref pa4), some (.ref pa6), none, some (.ref pu), some (.ref pr), some (.ref ps), some (.ref pt), some (.ref second), some (.ref third), some (.ref fourtha), some (.ref gone), none, none, none, none] (by rfl) ?_
    have sD := sC.trans (v1.trans (v2.trans (v3.trans (v4.trans (v5.trans (v6.trans v7))))))
    clear v1 v2 v3 v4 v5 v6 v7 G8 J1 J2 J3 J4 J5 J6 sC
    refine ⟨.ref fourtha, rfl, .ref ps, rfl, .ref pa3, rfl, ?_⟩
    refine ⟨ps, pa3, _, _, rfl, J7.get (by walk_at "mm"), J7.get (by walk_at "mm"), (J7.rb (p := ps) (by walk_at "mm")).up (by decide), (J7.rb (p := pa3) (by walk_at "mm")).up (by decide), trivial, fun m1 nm1 => ?_⟩
    obtain ⟨Ht, eH_, n1, N1⟩ := stepE J7 nm1 (RB.mul (J7.rb (p := ps) (by walk_at "mm")) (J7.rb (p := pa3) (by walk_at "mm")))
    rw [eH_]
    clear eH_
    refine ⟨fourtha, m1, _, _, rfl, N1.get (by walk_at "mm"), N1.get (by walk_at "mm"), (N1.rb (p := fourtha) (by walk_at "mm")).up (by decide), (N1.rb (p := m1) (by walk_at "mm")).up (by decide), trivial, fun m2 nm2 => ?_⟩
    obtain ⟨Hu, eH_, n2, N2⟩ := stepE N1 nm2 (RB.sub (N1.rb (p := fourtha) (by walk_at "mm")) (N1.rb (p := m1) (by walk_at "mm")))
    rw [eH_]
    clear eH_
    refine ⟨.ref gone, rfl, ?_⟩
    refine ⟨m2, gone, _, _, rfl, N2.get (by walk_at "mm"), N2.get (by walk_at "mm"), (N2.rb (p := m2) (by walk_at "mm")).up (by decide), (N2.rb (p := gone) (by walk_at "mm")).up (by decide), trivial, fun fourth nfourth => ?_⟩
    obtain ⟨Hv, eH_, n3, N3⟩ := stepE N2 nfourth (RB.sub (N2.rb (p := m2) (by walk_at "mm")) (N2.rb (p := gone) (by walk_at "mm")))
    rw [eH_]
    clear eH_
    first | refine sigN [some (.ref p), some (.ref o), some (.ref pa1), some (.ref pa2), some (.ref pa3), some (.ref pa4), some (.ref pa6), none, some (.ref pu), some (.ref pr), some (.ref ps), some (.ref pt), some (.ref second), some (.ref third), some (.ref fourth), some (.ref gone), none, none, none, none] (by rfl) ?_ | refine sig [some (.ref p), some (.ref o), some (.ref pa1), some (.ref pa2), some (.ref pa3), some (.ref pa4), some (.ref pa6), none, some (.ref pu), some (.ref pr), some (.ref ps), some (.ref pt), some (.ref second), some (.ref third), some (.ref fourth), some (.ref gone), none, none, none, none] (by rfl) ?_
    have sE := sD.trans (n1.trans (n2.trans n3))
    clear n1 n2 n3 J7 N1 N2 sD
    refine ⟨.ref pa6, rfl, .ref pr, rfl, .ref pa4, rfl, ?_⟩
    refine ⟨pr, pa4, _, _, rfl, N3.get (by walk_at "mm"), N3.get (by walk_at "mm"), (N3.rb (p := pr) (by walk_at "mm")).up (by decide), (N3.rb (p := pa4) (by walk_at "mm")).up (by decide), trivial, fun o1 no1 => ?_⟩
    obtain ⟨Hw, eH_, p1, P1⟩ := stepE N3 no1 (RB.mul (N3.rb (p := pr) (by walk_at "mm")) (N3.rb (p := pa4) (by walk_at "mm")))
    rw [eH_]
    clear eH_
    refine ⟨pa6, o1, _, _, rfl, P1.get (by walk_at "mm"), P1.get (by walk_at "mm"), (P1.rb (p := pa6) (by walk_at "mm")).up (by decide), (P1.rb (p := o1) (by walk_at "mm")).up (by decide), trivial, fun o2 no2 => ?_⟩
    obtain ⟨Hx, eH_, p2, P2⟩ := stepE P1 no2 (RB.add (P1.rb (p := pa6) (by walk_at "mm")) (P1.rb (p := o1) (by walk_at "mm")))
    rw [eH_]
    clear eH_
    refine ⟨.ref pr, rfl, .ref pr, rfl, ?_⟩
    refine ⟨pr, pr, _, _, rfl, P2.get (by walk_at "mm"), P2.get (by walk_at "mm"), (P2.rb (p := pr) (by walk_at "mm")).up (by decide), (P2.rb (p := pr) (by walk_at "mm")).up (by decide), trivial, fun o3 no3 => ?_⟩
    obtain ⟨Hy, eH_, p3, P3⟩ := stepE P2 no3 (RB.mul (P2.rb (p := pr) (by walk_at "mm")) (P2.rb (p := pr) (by walk_at "mm")))
    rw [eH_]
    clear eH_
    refine ⟨.ref pa2, rfl, .ref pr, rfl, ?_⟩
    refine ⟨pa2, pr, _, _, rfl, P3.get (by walk_at "mm"), P3.get (by walk_at "mm"), (P3.rb (p := pa2) (by walk_at "mm")).up (by decide), (P3.rb (p := pr) (by walk_at "mm")).up (by decide), trivial, fun o4 no4 => ?_⟩
    obtain ⟨Hz, eH_, p4, P4⟩ := stepE P3 no4 (RB.add (P3.rb (p := pa2) (by walk_at "mm")) (P3.rb (p := pr) (by walk_at "mm")))
    rw [eH_]
    clear eH_
    refine ⟨o3, o4, _, _, rfl, P4.get (by walk_at "mm"), P4.get (by walk_at "mm"), (P4.rb (p := o3) (by walk_at "mm")).up (by decide), (P4.rb (p := o4) (by walk_at "mm")).up (by decide), trivial, fun o5 no5 => ?_⟩
    obtain ⟨I1, eH_, p5, P5⟩ := stepE P4 no5 (RB.mul (P4.rb (p := o3) (by walk_at "mm")) (P4.rb (p := o4) (by walk_at "mm")))
    rw [eH_]
    clear eH_
    refine ⟨o2, o5, _, _, rfl, P5.get (by walk_at "mm"), P5.get (by walk_at "mm"), (P5.rb (p := o2) (by walk_at "mm")).up (by decide), (P5.rb (p := o5) (by walk_at "mm")).up (by decide), trivial, fun sixtha nsixtha => ?_⟩
    obtain ⟨I2, eH_, p6, P6⟩ := stepE P5 nsixtha (RB.add (P5.rb (p := o2) (by walk_at "mm")) (P5.rb (p := o5) (by walk_at "mm")))
    rw [eH_]
    clear eH_
    first | refine sigN [some (.ref p), some (.ref o), some (.ref pa1), some (.ref pa2), some (.ref pa3), some (.ref pa4), some (.ref pa6), none, some (.ref pu), some (.ref pr), some (.ref ps), some (.ref pt), some (.ref second), some (.ref third), some (.ref fourth), some (.ref gone), some (.ref sixtha), none, none, none] (by rfl) ?_ | refine sig [some (.ref p), some (.ref o), some (.ref pa1), some (.ref pa2), some (.ref pa3), some (.ref pa4), some (.ref pa6), none, some (.ref pu), some (.ref pr), some (.ref ps), some (.ref pt), some (.ref second), some (.ref third), some (.ref fourth), some (.ref gone), some (.ref sixtha), none, none, none] (by rfl) ?_
    have sF := sE.trans (p1.trans (p2.trans (p3.trans (p4.trans (p5.trans p6)))))
    clear p1 p2 p3 p4 p5 p6 N3 P1 P2 P3 P4 P5 sE
    refine ⟨.ref sixtha, rfl, .ref pt, rfl, .ref pa3, rfl, .ref pt, rfl, ?_⟩
    refine ⟨pa3, pt, _, _, rfl, P6.get (by walk_at "mm"), P6.get (by walk_at "mm"), (P6.rb (p := pa3) (by walk_at "mm")).up (by decide), (P6.rb (p := pt) (by walk_at "mm")).up (by decide), trivial, fun r1 nr1 => ?_⟩
    obtain ⟨I3, eH_, k1, R1⟩ := stepE P6 nr1 (RB.add (P6.rb (p := pa3) (by walk_at "mm")) (P6.rb (p := pt) (by walk_at "mm")))
    rw [eH_]
    clear eH_
    refine ⟨.ref pr, rfl, .ref pa1, rfl, ?_⟩
    refine ⟨pr, pa1, _, _, rfl, R1.get (by walk_at "mm"), R1.get (by walk_at "mm"), (R1.rb (p := pr) (by walk_at "mm")).up (by decide), (R1.rb (p := pa1) (by walk_at "mm")).up (by decide), trivial, fun r2 nr2 => ?_⟩
    obtain ⟨I4, eH_, k2, R2⟩ := stepE R1 nr2 (RB.mul (R1.rb (p := pr) (by walk_at "mm")) (R1.rb (p := pa1) (by walk_at "mm")))
    rw [eH_]
    clear eH_
    refine ⟨r1, r2, _, _, rfl, R2.get (by walk_at "mm"), R2.get (by walk_at "mm"), (R2.rb (p := r1) (by walk_at "mm")).up (by decide), (R2.rb (p := r2) (by walk_at "mm")).up (by decide), trivial, fun r3 nr3 => ?_⟩
    obtain ⟨I5, eH_, k3, R3⟩ := stepE R2 nr3 (RB.add (R2.rb (p := r1) (by walk_at "mm")) (R2.rb (p := r2) (by walk_at "mm")))
    rw [eH_]
    clear eH_
    refine ⟨pt, r3, _, _, rfl, R3.get (by walk_at "mm"), R3.get (by walk_at "mm"), (R3.rb (p := pt) (by walk_at "mm")).up (by decide), (R3.rb (p := r3) (by walk_at "mm")).up (by decide), trivial, fun r4 nr4 => ?_⟩
    obtain ⟨I6, eH_, k4, R4⟩ := stepE R3 nr4 (RB.mul (R3.rb (p := pt) (by walk_at "mm")) (R3.rb (p := r3) (by walk_at "mm")))
    rw [eH_]
    clear eH_
    refine ⟨sixtha, r4, _, _, rfl, R4.get (by walk_at "mm"), R4.get (by walk_at "mm"), (R4.rb (p := sixtha) (by walk_at "mm")).up (by decide), (R4.rb (p := r4) (by walk_at "mm")).up (by decide), trivial, fun sixth nsixth => ?_⟩
    obtain ⟨I7, eH_, k5, R5⟩ := stepE R4 nsixth (RB.sub (R4.rb (p := sixtha) (by walk_at "mm")) (R4.rb (p := r4) (by walk_at "mm")))
    rw [eH_]
    clear eH_
    first | refine sigN [some (.ref p), some (.ref o), some (.ref pa1), some (.ref pa2), some (.ref pa3), some (.ref pa4), some (.ref pa6), none, some (.ref pu), some (.ref pr), some (.ref ps), some (.ref pt), some (.ref second), some (.ref third), some (.ref fourth), some (.ref gone), some (.ref sixth), none, none, none] (by rfl) ?_ | refine sig [some (.ref p), some (.ref o), some (.ref pa1), some (.ref pa2), some (.ref pa3), some (.ref pa4), some (.ref pa6), none, some (.ref pu), some (.ref pr), some (.ref ps), some (.ref pt), some (.ref second), some (.ref third), some (.ref fourth), some (.ref gone), some (.ref sixth), none, none, none] (by rfl) ?_
    have sG := sF.trans (k1.trans (k2.trans (k3.trans (k4.trans k5))))
    clear k1 k2 k3 k4 k5 P6 R1 R2 R3 R4 sF
    refine ⟨(by show 0 ≤ sizeLine; decide), fun D hD => ?_⟩
    have S0 := R5.same (Same.new (o := .lst []) hD)
    have sH := sG.trans (Same.new (o := .lst []) hD)
    have gD : (upd I7 D (.lst [])) D = some (.lst []) := upd_same
    have nDH : H D = none := sG.free hD
    generalize upd I7 D (.lst []) = I8 at S0 sH gD ⊢
    refine ⟨.ref pu, rfl, _, _, rfl, ?_⟩
    first | refine sigN [some (.ref p), some (.ref o), some (.ref pa1), some (.ref pa2), some (.ref pa3), some (.ref pa4), some (.ref pa6), none, some (.ref pu), some (.ref pr), some (.ref ps), some (.ref pt), some (.ref second), some (.ref third), some (.ref fourth), some (.ref gone), some (.ref sixth), some (.ref D), some (.ref pu), none] (by rfl) ?_ | refine sig [some (.ref p), some (.ref o), some (.ref pa1), some (.ref pa2), some (.ref pa3), some (.ref pa4), some (.ref pa6), none, some (.ref pu), some (.ref pr), some (.ref ps), some (.ref pt), some (.ref second), some (.ref third), some (.ref fourth), some (.ref gone), some (.ref sixth), some (.ref D), some (.ref pu), none] (by rfl) ?_
    clear R5 sG hD
    refine ⟨.ref pa1, rfl, ?_⟩
    refine ⟨(by show 2 ≤ sizeLine; decide), fun twod ntwod => ?_⟩
    obtain ⟨Ia, eH_, a1, S1⟩ := litE S0 ntwod fq_2 rb_two
    rw [eH_]
    clear eH_
    refine ⟨.ref ps, rfl, ?_⟩
    refine ⟨twod, ps, _, _, rfl, S1.get (by walk_at "mm"), S1.get (by walk_at "mm"), (S1.rb (p := twod) (by walk_at "mm")).up (by decide), (S1.rb (p := ps) (by walk_at "mm")).up (by decide), trivial, fun f1 nf1 => ?_⟩
    obtain ⟨Ib, eH_, a2, S2⟩ := stepE S1 nf1 (RB.mul (S1.rb (p := twod) (by walk_at "mm")) (S1.rb (p := ps) (by walk_at "mm")))
    rw [eH_]
    clear eH_
    refine ⟨pa1, f1, _, _, rfl, S2.get (by walk_at "mm"), S2.get (by walk_at "mm"), (S2.rb (p := pa1) (by walk_at "mm")).up (by decide), (S2.rb (p := f1) (by walk_at "mm")).up (by decide), trivial, fun first nfirst => ?_⟩
    obtain ⟨Ic, eH_, a3, S3⟩ := stepE S2 nfirst (RB.add (S2.rb (p := pa1) (by walk_at "mm")) (S2.rb (p := f1) (by walk_at "mm")))
    rw [eH_]
    clear eH_
    refine ⟨.ref second, rfl, .ref third, rfl, .ref fourth, rfl, .ref sixth, rfl, (by show 6 ≤ sizeLine; decide), fun la nla => ?_⟩
    have gD2 := a3 _ _ (a2 _ _ (a1 _ _ gD))
    have sI := sH.trans (a1.trans (a2.trans a3))
    have hps : PsAt K Ic [.ref first, .ref second, .ref third, .ref fourth, .non, .ref sixth] [some ((c.a1 : Rat) + 2 * d.s), some ((c.a2 : Rat) + 3 * d.r - d.s * (c.a1 : Rat) - d.s * d.s), some ((c.a3 : Rat) + d.r * (c.a1 : Rat) + 2 * d.t), some ((c.a4 : Rat) + 2 * (d.r * (c.a2 : Rat)) + 3 * (d.r * d.r) - d.s * (c.a3 : Rat) - ((d.t + d.r * d.s) * (c.a1 : Rat) + 2 * (d.s * d.t))), none, some ((c.a6 : Rat) + d.r * (c.a4 : Rat) + d.r * d.r * ((c.a2 : Rat) + d.r) - d.t * ((c.a3 : Rat) + d.t + d.r * (c.a1 : Rat)))] :=
      .some (.some (.some (.some (.none (.some .nil (S3.get (p := sixth) (by walk_at "mm")) ((S3.rb (p := sixth) (by walk_at "mm")).up (by decide)))) (S3.get (p := fourth) (by walk_at "mm")) ((S3.rb (p := fourth) (by walk_at "mm")).up (by decide))) (S3.get (p := third) (by walk_at "mm")) ((S3.rb (p := third) (by walk_at "mm")).up (by decide))) (S3.get (p := second) (by walk_at "mm")) ((S3.rb (p := second) (by walk_at "mm")).up (by decide))) (S3.get (p := first) (by walk_at "mm")) ((S3.rb (p := first) (by walk_at "mm")).up (by decide))
    have hpu : SqT K Ic pu (fq 1) := S3.get (p := pu) (by walk_at "mm")
    clear S0 S1 S2 S3 a1 a2 a3 gD sH
    have hq : qsL d c = ([some ((c.a1 : Rat) + 2 * d.s), some ((c.a2 : Rat) + 3 * d.r - d.s * (c.a1 : Rat) - d.s * d.s), some ((c.a3 : Rat) + d.r * (c.a1 : Rat) + 2 * d.t), some ((c.a4 : Rat) + 2 * (d.r * (c.a2 : Rat)) + 3 * (d.r * d.r) - d.s * (c.a3 : Rat) - ((d.t + d.r * d.s) * (c.a1 : Rat) + 2 * (d.s * d.t))), none, some ((c.a6 : Rat) + d.r * (c.a4 : Rat) + d.r * d.r * ((c.a2 : Rat) + d.r) - d.t * ((c.a3 : Rat) + d.t + d.r * (c.a1 : Rat)))] : List (Option Rat)).filterMap id := by
      show qsL d c = [(c.a1 : Rat) + 2 * d.s, (c.a2 : Rat) + 3 * d.r - d.s * (c.a1 : Rat) - d.s * d.s, (c.a3 : Rat) + d.r * (c.a1 : Rat) + 2 * d.t, (c.a4 : Rat) + 2 * (d.r * (c.a2 : Rat)) + 3 * (d.r * d.r) - d.s * (c.a3 : Rat) - ((d.t + d.r * d.s) * (c.a1 : Rat) + 2 * (d.s * d.t)), (c.a6 : Rat) + d.r * (c.a4 : Rat) + d.r * d.r * ((c.a2 : Rat) + d.r) - d.t * ((c.a3 : Rat) + d.t + d.r * (c.a1 : Rat))]
      unfold qsL l1 l2 l3 l4 l6
      rw [hu1']
      simp only [List.cons.injEq, and_true]
      refine ⟨?_, ?_, ?_, ?_, ?_⟩ <;> grind
    rw [hq] at q
    clear hq
    have hPSl : ([some ((c.a1 : Rat) + 2 * d.s), some ((c.a2 : Rat) + 3 * d.r - d.s * (c.a1 : Rat) - d.s * d.s), some ((c.a3 : Rat) + d.r * (c.a1 : Rat) + 2 * d.t), some ((c.a4 : Rat) + 2 * (d.r * (c.a2 : Rat)) + 3 * (d.r * d.r) - d.s * (c.a3 : Rat) - ((d.t + d.r * d.s) * (c.a1 : Rat) + 2 * (d.s * d.t))), none, some ((c.a6 : Rat) + d.r * (c.a4 : Rat) + d.r * d.r * ((c.a2 : Rat) + d.r) - d.t * ((c.a3 : Rat) + d.t + d.r * (c.a1 : Rat)))] : List (Option Rat)).length = 6 := rfl
    generalize ([some ((c.a1 : Rat) + 2 * d.s), some ((c.a2 : Rat) + 3 * d.r - d.s * (c.a1 : Rat) - d.s * d.s), some ((c.a3 : Rat) + d.r * (c.a1 : Rat) + 2 * d.t), some ((c.a4 : Rat) + 2 * (d.r * (c.a2 : Rat)) + 3 * (d.r * d.r) - d.s * (c.a3 : Rat) - ((d.t + d.r * d.s) * (c.a1 : Rat) + 2 * (d.s * d.t))), none, some ((c.a6 : Rat) + d.r * (c.a4 : Rat) + d.r * d.r * ((c.a2 : Rat) + d.r) - d.t * ((c.a3 : Rat) + d.t + d.r * (c.a1 : Rat)))] : List (Option Rat)) = PS at hps q hPSl
    have sJ := sI.trans (Same.new (o := .lst [.ref first, .ref second, .ref third, .ref fourth, .non, .ref sixth]) nla)
    have hps2 := hps.same (Same.new (o := .lst [.ref first, .ref second, .ref third, .ref fourth, .non, .ref sixth]) nla)
    have hpu2 := Same.tup (Same.new (o := .lst [.ref first, .ref second, .ref third, .ref fourth, .non, .ref sixth]) nla) hpu
    have gD3 := Same.new (o := .lst [.ref first, .ref second, .ref third, .ref fourth, .non, .ref sixth]) nla _ _ gD2
    have gla : (upd Ic la (.lst [.ref first, .ref second, .ref third, .ref fourth, .non, .ref sixth])) la = some (.lst [.ref first, .ref second, .ref third, .ref fourth, .non, .ref sixth]) := upd_same
    have nlaH : H la = none := sI.free nla
    have hDla : D ≠ la := fun e => by
      rw [e] at gD2
      rw [nla] at gD2
      cases gD2
    clear hps hpu gD2 sI nla
    generalize upd Ic la (.lst [.ref first, .ref second, .ref third, .ref fourth, .non, .ref sixth]) = Id at sJ hps2 hpu2 gD3 gla ⊢
    refine ⟨la, [.ref first, .ref second, .ref third, .ref fourth, .non, .ref sixth], rfl, lst_of gla, for_it walk_enum (fun i σ H2 => But D Id H2 ∧ RfD K H2 D ((PS.take i).filterMap id) ∧ ∃ (sc : Addr) (v k : Option V), σ = [some (.ref p), some (.ref o), some (.ref pa1), some (.ref pa2), some (.ref pa3), some (.ref pa4), some (.ref pa6), v, some (.ref pu), some (.ref pr), some (.ref ps), some (.ref pt), some (.ref second), some (.ref third), some (.ref fourth), some (.ref gone), some (.ref sixth), some (.ref D), some (.ref sc), k] ∧ SqT K H2 sc (fq 1)) ⟨But.refl _ _, ⟨[], gD3, rfl, fun i x e => by cases e⟩, pu, none, none, rfl, hpu2⟩ (fun i σ H2 _ z => lst_of (z.1 _ _ gla (fun e => hDla e.symm))) ?_ ?_⟩
    · rintro i x σ H2 H2' hi ⟨b2, ⟨L, gL, rL⟩, sc, v, k, rfl, hsc⟩ ⟨T0, x0, y, rfl, nT, rfl, hx0, hy⟩
      have hi6 : i < 6 := hi
      refine ⟨T0, _, rfl, tup_of upd_same, rfl, _, _, rfl, _, _, rfl, rfl, ?_⟩
      have sT := Same.new (o := .tup [x0, y]) nT
      have b3 := b2.trans (But.of (m := D) sT)
      have gL3 := sT _ _ gL
      have rL3 := rL.same sT
      have hsc3 := Same.tup sT hsc
      have hlen : L.length ≤ i := by
        have h1 := rL.1
        rw [List.length_map] at h1
        rw [h1]
        exact fm_len _ _
      clear b2 gL rL hsc
      generalize upd H2 T0 (.tup [x0, y]) = H3 at sT b3 gL3 rL3 hsc3 ⊢
      have hpu3 := but_tup b3 gD3 hpu2
      rcases hps2 i y hy with ⟨a, qq, rfl, hpi, hqa, hqb⟩ | ⟨rfl, hpi⟩
      · have hqa3 := but_tup b3 gD3 hqa
        first | refine sigN [some (.ref p), some (.ref o), some (.ref pa1), some (.ref pa2), some (.ref pa3), some (.ref pa4), some (.ref pa6), some (.ref a), some (.ref pu), some (.ref pr), some (.ref ps), some (.ref pt), some (.ref second), some (.ref third), some (.ref fourth), some (.ref gone), some (.ref sixth), some (.ref D), some (.ref sc), some x0] (by rfl) ?_ | refine sig [some (.ref p), some (.ref o), some (.ref pa1), some (.ref pa2), some (.ref pa3), some (.ref pa4), some (.ref pa6), some (.ref a), some (.ref pu), some (.ref pr), some (.ref ps), some (.ref pt), some (.ref second), some (.ref third), some (.ref fourth), some (.ref gone), some (.ref sixth), some (.ref D), some (.ref sc), some x0] (by rfl) ?_
        refine ⟨_, rfl, rfl, _, rfl, iteT ?_⟩
        refine ⟨.ref D, rfl, .inl ⟨rfl, _, lst_of gL3⟩, .ref a, rfl, .ref sc, rfl, a, sc, qq, 1, rfl, hqa3, hsc3, hqb.up (by decide), rb_1.up (by decide), (by show (1 : Rat) ≠ 0; decide), fun t nt => ?_⟩
        have eH : upd H3 t (.tup (fq (qq / 1))) = upd H3 t (.tup (fq qq)) := by rw [show qq / 1 = qq by grind]
        rw [eH]
        clear eH
        have s4 := Same.new (o := .tup (fq qq)) nt
        have gt : (upd H3 t (.tup (fq qq))) t = some (.tup (fq qq)) := upd_same
        have gL4 := s4 _ _ gL3
        have rL4 := (rL3.same s4).push (tup_of gt)
        have hsc4 := Same.tup s4 hsc3
        have hpu4 := Same.tup s4 hpu3
        have b4 := b3.trans (But.of (m := D) s4)
        generalize upd H3 t (.tup (fq qq)) = H4 at s4 gt gL4 rL4 hsc4 hpu4 b4 ⊢
        refine ⟨D, _, _, rfl, rfl, gL4, small1000 (by rw [List.length_map]; omega), ?_⟩
        have hsc5 := tup_put (o := .lst (L.map V.ref ++ [.ref t])) gL4 hsc4
        have hpu5 := tup_put (o := .lst (L.map V.ref ++ [.ref t])) gL4 hpu4
        have rL5 := rL4.put (o := .lst (L.map V.ref ++ [.ref t])) gL4
        have b5 := b4.trans (But.upd (m := D) (o := .lst (L.map V.ref ++ [.ref t])))
        have gL5 : (upd H4 D (.lst (L.map V.ref ++ [.ref t]))) D = some (.lst (L.map V.ref ++ [.ref t])) := upd_same
        generalize upd H4 D (.lst (L.map V.ref ++ [.ref t])) = H5 at hsc5 hpu5 rL5 b5 gL5 ⊢
        refine ⟨.ref sc, rfl, .ref pu, rfl, sc, pu, 1, 1, rfl, hsc5, hpu5, rb_1.up (by decide), rb_1.up (by decide), trivial, fun t2 nt2 => ?_⟩
        have s6 := Same.new (o := .tup (fq (1 * 1 : Rat))) nt2
        have gt2 : (upd H5 t2 (.tup (fq (1 * 1 : Rat)))) t2 = some (.tup (fq 1)) := by
          rw [show (1 * 1 : Rat) = 1 by grind]
          exact upd_same
        refine ⟨b5.trans (But.of s6), ⟨L ++ [t], by rw [List.map_append]; exact s6 _ _ gL5, ?_⟩, t2, _, _, rfl, tup_of gt2⟩
        rw [List.map_append, fm_some hpi]
        exact rL5.same s6
      · skip
        first | refine sigN [some (.ref p), some (.ref o), some (.ref pa1), some (.ref pa2), some (.ref pa3), some (.ref pa4), some (.ref pa6), some V.non, some (.ref pu), some (.ref pr), some (.ref ps), some (.ref pt), some (.ref second), some (.ref third), some (.ref fourth), some (.ref gone), some (.ref sixth), some (.ref D), some (.ref sc), some x0] (by rfl) ?_ | refine sig [some (.ref p), some (.ref o), some (.ref pa1), some (.ref pa2), some (.ref pa3), some (.ref pa4), some (.ref pa6), some V.non, some (.ref pu), some (.ref pr), some (.ref ps), some (.ref pt), some (.ref second), some (.ref third), some (.ref fourth), some (.ref gone), some (.ref sixth), some (.ref D), some (.ref sc), some x0] (by rfl) ?_
        refine ⟨_, rfl, rfl, _, rfl, iteF ?_⟩
        refine ⟨.ref sc, rfl, .ref pu, rfl, sc, pu, 1, 1, rfl, hsc3, hpu3, rb_1.up (by decide), rb_1.up (by decide), trivial, fun t2 nt2 => ?_⟩
        have s6 := Same.new (o := .tup (fq (1 * 1 : Rat))) nt2
        have gt2 : (upd H3 t2 (.tup (fq (1 * 1 : Rat)))) t2 = some (.tup (fq 1)) := by
          rw [show (1 * 1 : Rat) = 1 by grind]
          exact upd_same
        refine ⟨b3.trans (But.of s6), ⟨L, s6 _ _ gL3, ?_⟩, t2, _, _, rfl, tup_of gt2⟩
        rw [fm_none hpi]
        exact rL3.same s6
    · rintro σ H2 ⟨b2, ⟨L, gL, rL⟩, sc, v, k, rfl, hsc⟩
      have e6 : PS.take ([V.ref first, V.ref second, V.ref third, V.ref fourth, V.non, V.ref sixth] : List V).length = PS := by
        rw [List.take_of_length_le]
        rw [hPSl]
        exact Nat.le_refl _
      rw [e6] at rL
      refine ⟨.ref D, rfl, D, _, rfl, .inl ⟨lst_of gL, fun t nt => ?_⟩⟩
      have sZ := Same.new (o := .tup (L.map V.ref)) nt
      exact q _ t _ ((But.same sJ b2 nDH).trans sZ) upd_same (rL.same sZ)
end
end K12
set_option Elab.async false
set_option linter.all false
set_option maxRecDepth 100000
set_option maxHeartbeats 400000
namespace K12
open PySem PySem.Spec PyProof.Rows L2 Gd QM
local macro_rules | `(tactic| walk_at "bd") => `(tactic| (repeat (first | assumption | apply B.add | apply B.sub | apply B.mul | apply B.neg | exact B.lit (n := 8) (by decide))))
local macro_rules | `(tactic| walk_at "pw") => `(tactic| exact B.up (n := 64) (by assumption) (by decide))
local macro_rules | `(tactic| walk_at "bnd") => `(tactic| (apply B.mulW; walk_at "bd"; decide))
theorem cand_md {c4 c6 : Int} (h4 : B 59 c4) (h6 : B 104 c6) {k : Nat} (hk : k < 12) : (cand c4 c6 k).Md := by
  have : k = 0 ∨ k = 1 ∨ k = 2 ∨ k = 3 ∨ k = 4 ∨ k = 5 ∨ k = 6 ∨ k = 7 ∨ k = 8 ∨ k = 9 ∨ k = 10 ∨ k = 11 := by omega
  unfold B at h4 h6
  rcases this with rfl | rfl | rfl | rfl | rfl | rfl | rfl | rfl | rfl | rfl | rfl | rfl <;> refine ⟨?_, ?_, ?_, ?_, ?_⟩ <;> unfold cand B <;> simp <;> omega
/-- triples that are tried -/
def TrD (H : Hp) (D : Addr) (i : Nat) : Prop := ∃ L : List Addr, H D = some (.lst (L.map V.ref)) ∧ L.length = i ∧ ∀ (j : Nat) (p : Addr), L[j]? = some p → H p = some (.tup [.int ((j : Int) / 6), .int ((j : Int) % 3 - 1), .int ((j : Int) / 3 - (j : Int) / 6 * 2)])
/-- curves in a list -/
def CvL (K : PySem.W.Frag) (H : Hp) (D : Addr) (cs : List Cv) : Prop := ∃ L : List Addr, H D = some (.lst (L.map V.ref)) ∧ L.length = cs.length ∧ ∀ (j : Nat) (p : Addr), L[j]? = some p → ∃ c, cs[j]? = some c ∧ SqT K H p c.tup
theorem get_snoc {A : Type} {L : List A} {t p : A} {j : Nat} (h : (L ++ [t])[j]? = some p) : L[j]? = some p ∨ (j = L.length ∧ p = t) := by
  rcases Nat.lt_or_ge j L.length with z | z
  · rw [List.getElem?_append_left z] at h
    exact .inl h
  · rw [List.getElem?_append_right z] at h
    have e0 : j - L.length = 0 := by
      rcases Nat.eq_zero_or_pos (j - L.length) with y | y
      · exact y
      · rw [List.getElem?_eq_none (by simp; omega)] at h
        cases h
    rw [e0] at h
    exact .inr ⟨by omega, (Option.some.inj h).symm⟩
theorem get_lt {A : Type} {L : List A} {p : A} {j : Nat} (h : L[j]? = some p) : j < L.length := (List.getElem?_eq_some_iff.mp h).1
theorem eqv_c (a b c d : Int) : PyData.eqv (.tuple [.int a, .int b]) (.tuple [.int c, .int d]) = (decide (a = c) && decide (b = d)) := by
  show (decide (a = c) && (decide (b = d) && true)) = _
  simp
section
variable {P : Program} {w : World} {K : PySem.W.Frag} {mg : Str → Option Value} {base : Heap}
def sp_law_pair (K : PySem.W.Frag) : Sp := fun vs H Q _ => ∃ c4 c6 : Int, vs = [.int c4, .int c6] ∧ B 59 c4 ∧ B 104 c6 ∧ ∀ H' D, Same H H' → CvL K H' D (pairN c4 c6 12) → Q (.ref D) H'
abbrev s__law_pair : Stmt := topS 34
theorem sc__law_pair : FnScope ["c4", "c6", "found", "a", "b", "c", "k", "two", "four", "six", "five_v", "numbers"] ["c4", "c6"] (defScope s__law_pair) := ⟨rfl, rfl, rfl, by decide +kernel, rfl, by decide +kernel, by decide +kernel⟩
theorem k_law_pair (T : Tx K mg) (D : Df K mg "_law_pair" s__law_pair ["c4", "c6"]) (c_law_numbers : Kl P w K mg base 1 "_law_numbers" (sp_law_numbers K)) : Kl P w K mg base 2 "_law_pair" (sp_law_pair K) := by
  have nd := sc__law_pair.nd
  refine Kl.by_body D sc__law_pair (fun vs H Q E h => ?_) (fun f cdv A outer s H vs Q E hr h => ?_)
  · obtain ⟨_, _, rfl, _⟩ := h
    rfl
  · obtain ⟨c4, c6, rfl, h4, h6, q⟩ := h
    have hu1 := hu_of hr
    refine ⟨_, (pss_cons (ps_set (i := 2) nd rfl (by first | exact Or.inl rfl | exact Or.inr rfl) (pe_lst pa_nil))
      (pss_cons (ps_for PassesOwn.never rfl (pi_list (pe_lc (own := [("k", 6)]) (g := gName 6) rfl nd (pi_range1 (by rfl) T.range (pa_cons pe_int pa_nil)) (blkOk_by (N := ["c4", "c6", "found", "a", "b", "c", "k", "two", "four", "six", "five_v", "numbers"]) (sc := defScope s__law_pair) (by decide +kernel)) (fun _ _ _ _ _ => (pg_name (i := 6) nd rfl (by first | exact Or.inl rfl | exact Or.inr rfl))) (fun _ _ _ _ _ => pts_nil) (fun _ _ _ _ _ => (pe_tup (pa_cons (pe_op op_fdiv (pv 6) pe_int) (pa_cons (pe_op op_sub (pe_op op_mod (pe_callTy call_intI (by rfl) T.int (by decide +kernel) (pa_cons (pv 6) pa_nil)) pe_int) pe_int) (pa_cons (pe_op op_sub (pe_op op_fdiv (pv 6) pe_int) (pe_op op_mul (pe_op op_fdiv (pv 6) pe_int) pe_int)) pa_nil))))))) (pg_tup rfl (pgs_cons (pg_name (i := 3) nd rfl (by first | exact Or.inl rfl | exact Or.inr rfl)) (pgs_cons (pg_name (i := 4) nd rfl (by first | exact Or.inl rfl | exact Or.inr rfl)) (pgs_cons (pg_name (i := 5) nd rfl (by first | exact Or.inl rfl | exact Or.inr rfl)) pgs_nil)))) (pss_cons (ps_set (i := 7) nd rfl (by first | exact Or.inl rfl | exact Or.inr rfl) (pe_op op_add (pv 3) (pe_op op_mul pe_int (pv 4))))
      (pss_cons (ps_set (i := 8) nd rfl (by first | exact Or.inl rfl | exact Or.inr rfl) (pe_op op_fdiv (pe_op op_sub (pe_op op_mulW (pv 7) (pv 7)) (pv 0)) pe_int))
      (pss_cons (ps_set (i := 9) nd rfl (by first | exact Or.inl rfl | exact Or.inr rfl) (pe_op op_fdiv (pe_op op_sub (pe_op op_sub (pe_op op_mulW (pe_op op_mul pe_int (pv 7)) (pv 8)) (pe_op op_pow (pv 7) pe_int)) (pv 1)) pe_int))
      (pss_cons (ps_set (i := 10) nd rfl (by first | exact Or.inl rfl | exact Or.inr rfl) (pe_tup (pa_cons (pv 3) (pa_cons (pv 4) (pa_cons (pv 5) (pa_cons (pe_op op_fdiv (pe_op op_sub (pv 8) (pe_op op_mulW (pv 3) (pv 5))) pe_int) (pa_cons (pe_op op_fdiv (pe_op op_sub (pv 9) (pv 5)) pe_int) pa_nil)))))))
      (pss_cons (ps_set (i := 11) nd rfl (by first | exact Or.inl rfl | exact Or.inr rfl) (pe_k c_law_numbers  hr (by decide) (by rfl) (pa_cons (pv 10) pa_nil)))
      (pss_one (ps_if (PW.pt (pw_and (pt_cmpR (op_eqD hr.units) (pe_slice sl_tup (pv 11) (po_some pe_int) (po_some pe_int)) (pe_tup (pa_cons (pv 0) (pa_cons (pv 1) pa_nil))) (nomark _)) (pw_and1 (pt_cmpR op_ne (pe_ix ix_tup (pv 11) pe_int (fun _ _ => rfl)) pe_int (nomark _))))) (pss_one (ps_expr (pe_bm PySem.F.plainAttrs_list PySem.F.slot_list_append PySem.F.type_list_append mt_append (pv 2) (pa_cons (pv 10) pa_nil)))) pss_nil))))))))
      (pss_one (ps_ret (pv 2))))), ?_⟩
    refine ⟨(by show 0 ≤ sizeLine; decide), fun F nF => ?_⟩
    have s1 := Same.new (H := H) (p := F) (o := .lst []) nF
    have gF : upd H F (.lst []) F = some (.lst []) := upd_same
    generalize upd H F (.lst []) = H1 at s1 gF ⊢
    first | refine sigN [some (.int (c4)), some (.int (c6)), some (.ref F), none, none, none, none, none, none, none, none, none] (by rfl) ?_ | refine sig [some (.int (c4)), some (.int (c6)), some (.ref F), none, none, none, none, none, none, none, none, none] (by rfl) ?_
    refine ⟨12, rfl, by decide, by decide, fun D hD => ?_⟩
    have hFD : F ≠ D := ne_of_none gF hD
    refine lc_range (lo := 0) (n := 12) (fun i H3 => Same H1 H3 ∧ TrD H3 D i) ⟨Same.new hD, [], upd_same, rfl, fun j p e => by cases e⟩ (fun i H3 hi z => ?_) (fun H3 z => ?_)
    · obtain ⟨s3, L, hL, el, hp⟩ := z
      refine ⟨rfl, _, rfl, _, _, rfl, rfl, ⟨by decide, by decide⟩, _, rfl, _, rfl, _, _, rfl, rfl, (by show (0 : Int) < 3; decide), _, _, rfl, rfl, _, rfl, _, _, rfl, rfl, ⟨by decide, by decide⟩, _, rfl, _, _, rfl, rfl, ⟨by decide, by decide⟩, _, _, rfl, rfl, (Or.inr ⟨by decide, by decide⟩), _, _, rfl, rfl, (by show 3 ≤ sizeLine; decide), fun t nt => ?_⟩
      rw [Int.zero_add]
      have hDt : D ≠ t := ne_of_none hL nt
      refine ⟨L.map V.ref, by rw [upd_ne hDt]; exact hL, small1000 (by rw [List.length_map]; omega), Same.put (Same.put s3 (s3.free nt)) hD, L ++ [t], by rw [upd_same, List.map_append]; rfl, by rw [List.length_append, el]; rfl, fun j p e => ?_⟩
      rcases get_snoc e with e | ⟨rfl, rfl⟩
      · have g := hp j p e
        rw [upd_ne (ne_of g hL (by intro z; cases z)), upd_ne (ne_of_none g nt)]
        exact g
      · rw [upd_ne hDt.symm, upd_same, el]
    obtain ⟨s3, L, hL, el, hp⟩ := z
    have gF3 := s3 _ _ gF
    have sA := s1.trans s3
    refine ⟨D, rfl, ⟨_, lst_of hL⟩, for_list (K := K) (a := D) (xs := L.map V.ref) (fun i σ H4 => But F H3 H4 ∧ CvL K H4 F (pairN c4 c6 i) ∧ ∃ va vb vc v7 v8 v9 v10 v11 : Option V, σ = [some (.int c4), some (.int c6), some (.ref F), va, vb, vc, none, v7, v8, v9, v10, v11]) ⟨But.refl _ _, ⟨[], gF3, rfl, fun j p e => by cases e⟩, none, none, none, none, none, none, none, none, rfl⟩ (fun i σ H4 _ z => lst_of (z.1 _ _ hL (fun e => hFD e.symm))) ?_ ?_⟩
    · rintro i x σ H4 hi ⟨b4, ⟨C, gC, eC, hC⟩, va, vb, vc, v7, v8, v9, v10, v11, rfl⟩
      obtain ⟨p, rfl, hpi⟩ : ∃ p, x = .ref p ∧ L[i]? = some p := by
        rw [List.getElem?_map] at hi
        cases e : L[i]? with
        | none =>
          rw [e] at hi
          cases hi
        | some y =>
          rw [e] at hi
          exact ⟨y, (Option.some.inj hi).symm, rfl⟩
      have hi12 : i < 12 := by
        have := get_lt hpi
        omega
      have gp3 := hp i p hpi
      have gp := b4 _ _ gp3 (ne_of gp3 gF3 (by intro z; cases z))
      have hmd := cand_md h4 h6 hi12
      have hlen : (pairN c4 c6 i).length ≤ i := pairN_len _ _ _
      have hcd : cand c4 c6 i = cand c4 c6 i := rfl
      conv at hcd => rhs; unfold cand
      have hA : B 2 ((i : Int) / 6) := by
        unfold B
        omega
      have hBb : B 2 ((i : Int) % 3 - 1) := by
        unfold B
        omega
      have hCc : B 2 ((i : Int) / 3 - (i : Int) / 6 * 2) := by
        unfold B
        omega
      have ht : B 8 ((i : Int) / 6 + 4 * ((i : Int) % 3 - 1)) := by
        unfold B
        omega
      generalize (i : Int) / 3 - (i : Int) / 6 * 2 = c at gp hcd hCc
      generalize (i : Int) / 6 = a at gp hcd hA ht
      generalize (i : Int) % 3 - 1 = b at gp hcd hBb ht
      clear gp3 hi hp
      refine ⟨p, _, rfl, tup_of gp, rfl, _, _, rfl, _, _, rfl, _, _, rfl, rfl, ?_⟩
      first | refine sigN [some (.int (c4)), some (.int (c6)), some (.ref F), some (.int (a)), some (.int (b)), some (.int (c)), none, v7, v8, v9, v10, v11] (by rfl) ?_ | refine sig [some (.int (c4)), some (.int (c6)), some (.ref F), some (.int (a)), some (.int (b)), some (.int (c)), none, v7, v8, v9, v10, v11] (by rfl) ?_
      refine ⟨_, rfl, _, rfl, _, _, rfl, rfl, (Or.inl ⟨by decide, by decide⟩), _, _, rfl, rfl, ?_⟩
      first | refine sigN [some (.int (c4)), some (.int (c6)), some (.ref F), some (.int (a)), some (.int (b)), some (.int (c)), none, some (.int (a + 4 * b)), v8, v9, v10, v11] (by rfl) ?_ | refine sig [some (.int (c4)), some (.int (c6)), some (.ref F), some (.int (a)), some (.int (b)), some (.int (c)), none, some (.int (a + 4 * b)), v8, v9, v10, v11] (by rfl) ?_
      generalize a + 4 * b = two at ht hcd ⊢
      refine ⟨_, rfl, _, rfl, _, _, rfl, rfl, (by walk_at "bnd"), _, rfl, _, _, rfl, rfl, _, _, rfl, rfl, ⟨by decide, by decide⟩, ?_⟩
      have hf : B 60 ((two * two - c4) / 24) := by
        have := ht.mul ht
        unfold B at *
        omega
      first | refine sigN [some (.int (c4)), some (.int (c6)), some (.ref F), some (.int (a)), some (.int (b)), some (.int (c)), none, some (.int (two)), some (.int ((two * two - c4) / 24)), v9, v10, v11] (by rfl) ?_ | refine sig [some (.int (c4)), some (.int (c6)), some (.ref F), some (.int (a)), some (.int (b)), some (.int (c)), none, some (.int (two)), some (.int ((two * two - c4) / 24)), v9, v10, v11] (by rfl) ?_
      generalize (two * two - c4) / 24 = four at hf hcd ⊢
      refine ⟨_, rfl, _, _, rfl, rfl, (Or.inl ⟨by decide, by decide⟩), _, rfl, _, _, rfl, rfl, (by walk_at "bnd"), _, rfl, _, _, rfl, rfl, ⟨by decide, by decide, by walk_at "pw"⟩, _, _, rfl, rfl, _, rfl, _, _, rfl, rfl, _, _, rfl, rfl, ⟨by decide, by decide⟩, ?_⟩
      first | refine sigN [some (.int (c4)), some (.int (c6)), some (.ref F), some (.int (a)), some (.int (b)), some (.int (c)), none, some (.int (two)), some (.int (four)), some (.int ((36 * two * four - two ^ 3 - c6) / 216)), v10, v11] (by rfl) ?_ | refine sig [some (.int (c4)), some (.int (c6)), some (.ref F), some (.int (a)), some (.int (b)), some (.int (c)), none, some (.int (two)), some (.int (four)), some (.int ((36 * two * four - two ^ 3 - c6) / 216)), v10, v11] (by rfl) ?_
      generalize (36 * two * four - two ^ 3 - c6) / 216 = six at hcd ⊢
      refine ⟨_, rfl, _, rfl, _, rfl, _, rfl, _, rfl, _, rfl, _, _, rfl, rfl, (by walk_at "bnd"), _, _, rfl, rfl, _, _, rfl, rfl, ⟨by decide, by decide⟩, _, rfl, _, rfl, _, _, rfl, rfl, _, _, rfl, rfl, ⟨by decide, by decide⟩, (by show 5 ≤ sizeLine; decide), fun t nt => ?_⟩
      have s5 := Same.new (H := H4) (p := t) (o := .tup [.int a, .int b, .int c, .int ((four - a * c) / 2), .int ((six - c) / 4)]) nt
      have gt : upd H4 t (.tup [.int a, .int b, .int c, .int ((four - a * c) / 2), .int ((six - c) / 4)]) t = some (.tup [.int a, .int b, .int c, .int ((four - a * c) / 2), .int ((six - c) / 4)]) := upd_same
      generalize upd H4 t (.tup [.int a, .int b, .int c, .int ((four - a * c) / 2), .int ((six - c) / 4)]) = H5 at s5 gt ⊢
      have gt' : H5 t = some (.tup (cand c4 c6 i).tup) := by
        rw [hcd]
        exact gt
      have b5 := b4.trans (But.of (m := F) s5)
      have gC5 := s5 _ _ gC
      have hC5 : ∀ (j : Nat) (p : Addr), C[j]? = some p → ∃ c, (pairN c4 c6 i)[j]? = some c ∧ SqT K H5 p c.tup := fun j p e => (hC j p e).imp fun c z => ⟨z.1, Same.tup s5 z.2⟩
      clear gC hC s5 gt hcd
      generalize hE : cand c4 c6 i = e at gt' hmd
      first | refine sigN [some (.int (c4)), some (.int (c6)), some (.ref F), some (.int (a)), some (.int (b)), some (.int (c)), none, some (.int (two)), some (.int (four)), some (.int (six)), some (.ref t), v11] (by rfl) ?_ | refine sig [some (.int (c4)), some (.int (c6)), some (.ref F), some (.int (a)), some (.int (b)), some (.int (c)), none, some (.int (two)), some (.int (four)), some (.int (six)), some (.ref t), v11] (by rfl) ?_
      refine ⟨.ref t, rfl, t, e, rfl, tup_of gt', hmd, fun u nu => ?_⟩
      have s6 := Same.new (H := H5) (p := u) (o := .tup e.nums) nu
      have gu : upd H5 u (.tup e.nums) u = some (.tup e.nums) := upd_same
      generalize upd H5 u (.tup e.nums) = H6 at s6 gu ⊢
      first | refine sigN [some (.int (c4)), some (.int (c6)), some (.ref F), some (.int (a)), some (.int (b)), some (.int (c)), none, some (.int (two)), some (.int (four)), some (.int (six)), some (.ref t), some (.ref u)] (by rfl) ?_ | refine sig [some (.int (c4)), some (.int (c6)), some (.ref F), some (.int (a)), some (.int (b)), some (.int (c)), none, some (.int (two)), some (.int (four)), some (.int (six)), some (.ref t), some (.ref u)] (by rfl) ?_
      refine ⟨.ref u, rfl, _, rfl, _, rfl, u, _, rfl, tup_of gu, (by show ¬ (HT.sIx 7 0 (some 4) = 0 ∧ HT.sIx 7 7 (some 6) = 7); decide), fun t2 n2 => ?_⟩
      have e2 : cutV e.nums (some 4) (some 6) = [.int e.c4, .int e.c6] := rfl
      rw [e2]
      have s7 := Same.new (H := H6) (p := t2) (o := .tup [.int e.c4, .int e.c6]) n2
      have g7 : upd H6 t2 (.tup [.int e.c4, .int e.c6]) t2 = some (.tup [.int e.c4, .int e.c6]) := upd_same
      generalize upd H6 t2 (.tup [.int e.c4, .int e.c6]) = H7 at s7 g7 ⊢
      refine ⟨_, rfl, _, rfl, (by show 2 ≤ sizeLine; decide), fun t3 n3 => ?_⟩
      have s8 := Same.new (H := H7) (p := t3) (o := .tup [.int c4, .int c6]) n3
      have g8 : upd H7 t3 (.tup [.int c4, .int c6]) t3 = some (.tup [.int c4, .int c6]) := upd_same
      generalize upd H7 t3 (.tup [.int c4, .int c6]) = H8 at s8 g8 ⊢
      refine ⟨.tuple [.int e.c4, .int e.c6], .tuple [.int c4, .int c6], .tup (tup_of (s8 _ _ g7)) (.cons (.int _) (.cons (.int _) .nil)), .tup (tup_of g8) (.cons (.int _) (.cons (.int _) .nil)), rfl, rfl, ?_⟩
      rw [eqv_c]
      have gu8 := s8 _ _ (s7 _ _ gu)
      have gC8 := s8 _ _ (s7 _ _ (s6 _ _ gC5))
      have gt8 := s8 _ _ (s7 _ _ (s6 _ _ gt'))
      have b8 := b5.trans (But.of (m := F) (s6.trans (s7.trans s8)))
      have hC8 : ∀ (j : Nat) (p : Addr), C[j]? = some p → ∃ c, (pairN c4 c6 i)[j]? = some c ∧ SqT K H8 p c.tup := fun j p e => (hC5 j p e).imp fun c z => ⟨z.1, Same.tup (s6.trans (s7.trans s8)) z.2⟩
      clear gC5 gu g7 g8 hC5 b5 s6 s7 s8 gt' b4 gp
      have no : ¬ Fits c4 c6 e → But F H3 H8 ∧ CvL K H8 F (pairN c4 c6 (i + 1)) ∧ ∃ va vb vc v7 v8 v9 v10 v11 : Option V, [some (V.int c4), some (.int c6), some (.ref F), some (.int a), some (.int b), some (.int c), none, some (.int two), some (.int four), some (.int six), some (.ref t), some (.ref u)] = [some (.int c4), some (.int c6), some (.ref F), va, vb, vc, none, v7, v8, v9, v10, v11] := fun hn => by
        refine ⟨b8, ⟨C, gC8, ?_, ?_⟩, _, _, _, _, _, _, _, _, rfl⟩
        · rw [pairN_no (by rw [hE]; exact hn)]
          exact eC
        · rw [pairN_no (by rw [hE]; exact hn)]
          exact hC8
      refine ⟨_, rfl, ?_⟩
      by_cases hz : e.c4 = c4 ∧ e.c6 = c6
      · refine iteY (by rw [hz.1, hz.2]; simp) ?_
        refine ⟨.ref u, rfl, u, _, 6, .int e.disc, rfl, rfl, tup_of gu8, rfl, ?_⟩
        refine ⟨rfl, _, rfl, ?_⟩
        rw [dec_int]
        by_cases hd : e.disc = 0
        · refine iteN (by simp [hd]) ?_
          exact no (fun z => z.2.2 hd)
        · refine iteY (by simp [hd]) ?_
          refine ⟨.ref F, rfl, .inl ⟨rfl, _, lst_of gC8⟩, .ref t, rfl, F, _, _, rfl, rfl, gC8, small1000 (by rw [List.length_map]; omega), ?_⟩
          have hy : Fits c4 c6 (cand c4 c6 i) := by
            rw [hE]
            exact ⟨hz.1, hz.2, hd⟩
          refine ⟨b8.trans But.upd, ⟨C ++ [t], by rw [upd_same, List.map_append]; rfl, ?_, fun j p e' => ?_⟩, _, _, _, _, _, _, _, _, rfl⟩
          · rw [pairN_yes hy, List.length_append, List.length_append, eC]
            rfl
          · rw [pairN_yes hy, hE]
            rcases get_snoc e' with e' | ⟨rfl, rfl⟩
            · obtain ⟨c', h1, h2⟩ := hC8 j p e'
              exact ⟨c', by rw [List.getElem?_append_left (get_lt h1)]; exact h1, tup_put gC8 h2⟩
            · refine ⟨e, by rw [List.getElem?_append_right (by omega), eC, Nat.sub_self]; rfl, ?_⟩
              exact tup_put gC8 (tup_of gt8)
      · refine iteN (by
          intro y
          rw [Bool.and_eq_true, decide_eq_true_iff, decide_eq_true_iff] at y
          exact hz y) ?_
        exact no (fun z => hz ⟨z.1, z.2.1⟩)
    · rintro σ H4 ⟨b4, hcv, va, vb, vc, v7, v8, v9, v10, v11, rfl⟩
      rw [List.length_map, el] at hcv
      refine ⟨.ref F, rfl, ?_⟩
      exact q _ F (But.same sA b4 nF) hcv
end
end K12
set_option Elab.async false
set_option linter.all false
set_option maxRecDepth 100000
set_option maxHeartbeats 400000
namespace K12
open PySem PySem.Spec PyProof.Rows L2 Gd QM
local macro_rules | `(tactic| walk_at "bd") => `(tactic| (repeat (first | assumption | apply B.add | apply B.sub | apply B.mul | apply B.neg | exact B.lit (n := 8) (by decide))))
local macro_rules | `(tactic| walk_at "bu") => `(tactic| (apply B.up; walk_at "bd"; decide))
theorem ix_listK {X : Cx} {K : PySem.W.Frag} (h : X.K = K) : IxR X (rIxL K) := h ▸ ix_list
theorem ix_tupK {X : Cx} {K : PySem.W.Frag} (h : X.K = K) : IxR X (rIxT K) := h ▸ ix_tup
theorem op_in_seqK {X : Cx} {K : PySem.W.Frag} (h : X.K = K) : OpR X (compareOp .In) (rIn K false) := h ▸ op_in_seq
/-! ### curves as data -/
def dcv (c : Cv) : PyData := .tuple [.int c.a1, .int c.a2, .int c.a3, .int c.a4, .int c.a6]
theorem dp_cv {K : PySem.W.Frag} {H : Hp} {p : Addr} {c : Cv} (h : SqT K H p c.tup) : Dp K H (.ref p) (dcv c) := .tup h (.cons (.int _) (.cons (.int _) (.cons (.int _) (.cons (.int _) (.cons (.int _) .nil)))))
theorem cv_ok {m : Nat} {c : Cv} (h : CvB m c) (hm : m ≤ 1900) : okD (dcv c) = true := by
  simp [okD, okAll, dcv, B.log h.h1 hm, B.log h.h2 hm, B.log h.h3 hm, B.log h.h4 hm, B.log h.h6 hm]
theorem cvl_ok {m : Nat} {c : Cv} (h : CvB m c) (hm : m ≤ 1900) : okD (.list [dcv c]) = true := by
  have := cv_ok h hm
  simp [okD, okAll, this]
theorem cv_depth (c : Cv) : (dcv c).depth ≤ 40 ∧ (PyData.list [dcv c]).depth ≤ 40 := by
  simp [PyData.depth, PyData.depthAll, dcv]
theorem cv_wt (c : Cv) : wt (dcv c) ≤ 1000000 ∧ wt (PyData.list [dcv c]) ≤ 1000000 := by
  simp [wt, wtAll, dcv]
theorem rf_dp {K : PySem.W.Frag} {H : Hp} : ∀ {xs : List V} {qs : List Rat}, RfAt K H xs qs → DpAll K H xs (qs.map dq)
  | [], [], _ => .nil
  | [], _ :: _, h => by
    have := h.1
    cases this
  | _ :: _, [], h => by
    have := h.1
    cases this
  | x :: xs, q :: qs, h => by
    obtain ⟨a, q', rfl, e, hs⟩ := h.2 0 x rfl
    obtain rfl := Option.some.inj e
    refine .cons (dp_q hs) (rf_dp ⟨Nat.succ.inj h.1, fun i y hy => ?_⟩)
    exact h.2 (i + 1) y hy
def intQ (c : Cv) : List Rat := c.ints.map fun n : Int => (n : Rat)
theorem iq_ok {m : Nat} {c : Cv} (h : CvB m c) (hm : m ≤ 1900) (hm1 : 1 ≤ m) : okD (.tuple ((intQ c).map dq)) = true := by
  have e1 := okq (RB.int h.h1 hm1) hm
  have e2 := okq (RB.int h.h2 hm1) hm
  have e3 := okq (RB.int h.h3 hm1) hm
  have e4 := okq (RB.int h.h4 hm1) hm
  have e6 := okq (RB.int h.h6 hm1) hm
  simp [okD, okAll, intQ, Cv.ints, e1, e2, e3, e4, e6]
theorem iq_depth (c : Cv) : (PyData.tuple ((intQ c).map dq)).depth ≤ 40 ∧ wt (PyData.tuple ((intQ c).map dq)) ≤ 1000000 := by
  constructor
  · simp [PyData.depth, PyData.depthAll, dq, intQ, Cv.ints]
  · simp [wt, wtAll, dq, intQ, Cv.ints]
theorem FrD.rf {K : PySem.W.Frag} {H : Hp} {D : Addr} {c : Cv} (h : FrD H D c.ints 5) : ∃ xs, H D = some (.lst xs) ∧ RfAt K H xs (intQ c) := by
  obtain ⟨L, h1, h2, h3⟩ := h
  refine ⟨L.map V.ref, h1, by rw [List.length_map, h2]; rfl, fun i x e => ?_⟩
  rw [List.getElem?_map] at e
  cases e' : L[i]? with
  | none =>
    rw [e'] at e
    cases e
  | some p =>
    rw [e'] at e
    obtain ⟨n, h4, h5⟩ := h3 i p e'
    refine ⟨p, (n : Rat), (Option.some.inj e).symm, ?_, tup_of h5⟩
    unfold intQ
    rw [List.getElem?_map, h4]
    rfl
theorem red_B {c : Cv} (h : c.Sm) : CvB 100 (red c) := by
  have bs := h.s
  have br := h.r
  have bt := h.t
  obtain ⟨h1, h2, h3, h4, h6⟩ := h
  unfold red moved
  refine ⟨?_, ?_, ?_, ?_, ?_⟩ <;> dsimp only <;> walk_at "bu"
section
variable {P : Program} {w : World} {K : PySem.W.Frag} {mg : Str → Option Value} {base : Heap}
def sp_law_reduced_right (K : PySem.W.Frag) : Sp := fun vs H Q _ => ∃ (p : Addr) (c : Cv), vs = [.ref p] ∧ SqT K H p c.tup ∧ c.Sm ∧ c.disc ≠ 0 ∧ ∀ H', Same H H' → Q (.bl true) H'
abbrev s__law_reduced_right : Stmt := topS 35
theorem sc__law_reduced_right : FnScope ["five_v", "numbers", "told", "change", "part"] ["five_v"] (defScope s__law_reduced_right) := ⟨rfl, rfl, rfl, by decide +kernel, rfl, by decide +kernel, by decide +kernel⟩
theorem k_law_reduced_right (T : Tx K mg) (D : Df K mg "_law_reduced_right" s__law_reduced_right ["five_v"]) (c_law_numbers : Kl P w K mg base 1 "_law_numbers" (sp_law_numbers K)) (c_reduced : Kl P w K mg base 5 "reduced" (sp_reduced K)) (c_law_led : Kl P w K mg base 4 "_law_led" (sp_law_led K)) (c_law_pair : Kl P w K mg base 2 "_law_pair" (sp_law_pair K)) : Kg P w K mg base 6 "_law_reduced_right" (sp_law_reduced_right K) := by
  have nd := sc__law_reduced_right.nd
  refine Kg.by_body D sc__law_reduced_right (fun vs H Q E h => ?_) (fun f cdv A outer s H vs Q E hgd hr h => ?_)
  · obtain ⟨_, _, rfl, _⟩ := h
    rfl
  · obtain ⟨p, c, rfl, hx, hm, hd, q⟩ := h
    have hu1 := hu_of hr
    refine ⟨_, (pss_cons (ps_set (i := 1) nd rfl (by first | exact Or.inl rfl | exact Or.inr rfl) (pe_k c_law_numbers  hr (by decide) (by rfl) (pa_cons (pv 0) pa_nil)))
      (pss_cons (ps_asg (pe_k c_reduced  hr (by decide) (by rfl) (pa_cons (pv 0) pa_nil)) (pg_tup rfl (pgs_cons (pg_name (i := 2) nd rfl (by first | exact Or.inl rfl | exact Or.inr rfl)) (pgs_cons (pg_name (i := 3) nd rfl (by first | exact Or.inl rfl | exact Or.inr rfl)) pgs_nil))))
      (pss_cons (ps_if (PW.pt (pw_or (pt_cmpR op_ne (pe_callB (call_reprD hgd hr.units) (by rfl) T.repr (by decide +kernel) (pa_cons (pe_lst (pa_cons (pv 2) pa_nil)) pa_nil)) (pe_callB (call_reprD hgd hr.units) (by rfl) T.repr (by decide +kernel) (pa_cons (pe_k c_law_pair  hr (by decide) (by rfl) (pa_cons (pe_ix ix_tup (pv 1) pe_int (fun _ _ => rfl)) (pa_cons (pe_ix ix_tup (pv 1) pe_int (fun _ _ => rfl)) pa_nil))) pa_nil)) (nomark _)) (pw_or1 (pt_cmpR op_ne (pe_callB (call_reprD hgd hr.units) (by rfl) T.repr (by decide +kernel) (pa_cons (pe_ix ix_tup (pv 3) pe_int (fun _ _ => rfl)) pa_nil)) (pe_callB (call_reprD hgd hr.units) (by rfl) T.repr (by decide +kernel) (pa_cons (pe_tup (pa_cons pe_int (pa_cons pe_int pa_nil))) pa_nil)) (nomark _))))) (pss_one (ps_ret pe_bl)) pss_nil)
      (pss_cons (ps_if (pt_cmpR (op_neD hr.units) (pe_lc (own := [("part", 4)]) (g := gName 4) rfl nd (pi_tup (pv 3)) (blkOk_by (N := ["five_v", "numbers", "told", "change", "part"]) (sc := defScope s__law_reduced_right) (by decide +kernel)) (fun _ _ _ _ _ => (pg_name (i := 4) nd rfl (by first | exact Or.inl rfl | exact Or.inr rfl))) (fun _ _ _ _ _ => (pts_one (pt_cmpR op_ne (pe_ix (ix_tupK (K := K) rfl) (pv 4) pe_int (fun _ _ => rfl)) pe_int (nomark _)))) (fun _ _ _ _ _ => (pv 4))) (pe_lst pa_nil) (nomark _)) (pss_one (ps_ret pe_bl)) pss_nil)
      (pss_one (ps_ret (pe_cmpR op_eq (pe_callB (call_reprD hgd hr.units) (by rfl) T.repr (by decide +kernel) (pa_cons (pe_k c_law_led  hr (by decide) (by rfl) (pa_cons (pv 0) (pa_cons (pv 3) pa_nil))) pa_nil)) (pe_callB (call_reprD hgd hr.units) (by rfl) T.repr (by decide +kernel) (pa_cons (pe_callTy call_tuple_of (by rfl) T.tuple (by decide +kernel) (pa_cons (pe_lc (own := [("part", 4)]) (g := gName 4) rfl nd (pi_tup (pv 2)) (blkOk_by (N := ["five_v", "numbers", "told", "change", "part"]) (sc := defScope s__law_reduced_right) (by decide +kernel)) (fun _ _ _ _ _ => (pg_name (i := 4) nd rfl (by first | exact Or.inl rfl | exact Or.inr rfl))) (fun _ _ _ _ _ => pts_nil) (fun _ _ _ _ _ => (pe_tup (pa_cons (pv 4) (pa_cons pe_int pa_nil))))) pa_nil)) pa_nil)) (nomark _)))))))), ?_⟩
    refine ⟨.ref p, rfl, p, c, rfl, hx, hm.md, fun nu nnu => ?_⟩
    have s1 := Same.new (H := H) (p := nu) (o := .tup c.nums) nnu
    have gnu : upd H nu (.tup c.nums) nu = some (.tup c.nums) := upd_same
    generalize upd H nu (.tup c.nums) = H1 at s1 gnu ⊢
    first | refine sigN [some (.ref p), some (.ref nu), none, none, none] (by rfl) ?_ | refine sig [some (.ref p), some (.ref nu), none, none, none] (by rfl) ?_
    refine ⟨.ref p, rfl, p, c, rfl, Same.tup s1 hx, hm, fun H2 t pd po s2 gt gd hch => ?_⟩
    refine ⟨t, _, rfl, tup_of gt, rfl, _, _, rfl, _, _, rfl, rfl, ?_⟩
    first | refine sigN [some (.ref p), some (.ref nu), some (.ref pd), some (.ref po), none] (by rfl) ?_ | refine sig [some (.ref p), some (.ref nu), some (.ref pd), some (.ref po), none] (by rfl) ?_
    have gnu2 := s2 _ _ gnu
    have sA := s1.trans s2
    clear s1 s2 gnu gt
    have hrB := red_B hm
    have hpr : pairN c.c4 c.c6 12 = [red c] := by
      have := pair_one (red_rc c) (red_d hd)
      rw [red_c4, red_c6] at this
      exact this
    refine ⟨.ref pd, rfl, (by show 1 ≤ sizeLine; decide), fun l nl => ?_⟩
    have s3 := Same.new (H := H2) (p := l) (o := .lst [.ref pd]) nl
    have gl : upd H2 l (.lst [.ref pd]) l = some (.lst [.ref pd]) := upd_same
    generalize upd H2 l (.lst [.ref pd]) = H3 at s3 gl ⊢
    refine ⟨.ref l, .list [dcv (red c)], rfl, .lst (lst_of gl) (.cons (dp_cv (tup_of (s3 _ _ gd))) .nil), cvl_ok hrB (by decide), (cv_depth _).2, (cv_wt _).2, ?_⟩
    refine ⟨.ref nu, rfl, nu, _, 4, .int c.c4, rfl, rfl, tup_of (s3 _ _ gnu2), rfl, .ref nu, rfl, nu, _, 5, .int c.c6, rfl, rfl, tup_of (s3 _ _ gnu2), rfl, ?_⟩
    refine ⟨_, _, rfl, hm.c4.up (by decide), hm.c6.up (by decide), fun H4 D s4 hcv => ?_⟩
    rw [hpr] at hcv
    obtain ⟨L, gL, eL, hL⟩ := hcv
    obtain ⟨z, rfl⟩ : ∃ z, L = [z] := by
      match L, eL with
      | [z], _ => exact ⟨z, rfl⟩
    obtain ⟨e, he, gz⟩ := hL 0 z rfl
    obtain rfl := Option.some.inj he
    refine ⟨.ref D, .list [dcv (red c)], rfl, .lst (lst_of gL) (.cons (dp_cv gz) .nil), cvl_ok hrB (by decide), (cv_depth _).2, (cv_wt _).2, rfl, _, rfl, ?_⟩
    generalize (PyData.list [dcv (red c)]).shown = zz
    refine iteNS rfl ?_
    have s34 := s3.trans s4
    have hch4 := hch.same s34
    have gd4 := s34 _ _ gd
    have sB := sA.trans s34
    clear gL hL gz eL he s3 s4 gl gnu2 gd hch sA s34 zz
    obtain ⟨pu, pr, ps, pt, hpo, hu, hr', hs, ht⟩ := hch4
    refine ⟨.ref po, rfl, po, _, 0, .ref pu, rfl, rfl, hpo, rfl, ?_⟩
    refine ⟨.ref pu, dq 1, rfl, dp_q hu, okq rb_1 (by decide), (by decide +kernel), (by decide +kernel), ?_⟩
    refine ⟨(by show 2 ≤ sizeLine; decide), fun l2 nl2 => ?_⟩
    rw [fq_1]
    have s5 := Same.new (H := H4) (p := l2) (o := .tup (fq 1)) nl2
    have gl2 : upd H4 l2 (.tup (fq 1)) l2 = some (.tup (fq 1)) := upd_same
    generalize upd H4 l2 (.tup (fq 1)) = H5 at s5 gl2 ⊢
    refine ⟨.ref l2, dq 1, rfl, dp_q (tup_of gl2), okq rb_1 (by decide), (by decide +kernel), (by decide +kernel), rfl, _, rfl, ?_⟩
    generalize (dq 1).shown = zz
    refine iteNS rfl ?_
    have sC := sB.trans s5
    have hpo5 := Same.tup s5 hpo
    have gd5 := s5 _ _ gd4
    have hp4 : ∀ (i : Nat) (x : V), [V.ref pu, V.ref pr, V.ref ps, V.ref pt][i]? = some x → ∃ (a : Addr) (n : Int), x = .ref a ∧ SqT K H5 a (fq (n : Rat)) := fun i x e => by
      match i, e with
      | 0, e =>
        obtain rfl := Option.some.inj e
        exact ⟨pu, 1, rfl, Same.tup s5 hu⟩
      | 1, e =>
        obtain rfl := Option.some.inj e
        exact ⟨pr, rR c, rfl, Same.tup s5 hr'⟩
      | 2, e =>
        obtain rfl := Option.some.inj e
        exact ⟨ps, rS c, rfl, Same.tup s5 hs⟩
      | 3, e =>
        obtain rfl := Option.some.inj e
        exact ⟨pt, rT c, rfl, Same.tup s5 ht⟩
    refine ⟨.ref po, rfl, po, rfl, ⟨_, hpo5⟩, fun D hD => ?_⟩
    refine lc_tup (K := K) (a := po) (xs := [V.ref pu, V.ref pr, V.ref ps, V.ref pt]) (fun i H6 => Same H5 H6 ∧ H6 D = some (.lst [])) ⟨Same.new hD, upd_same⟩ (fun i H6 _ z => Same.tup z.1 hpo5) (fun i x H6 hi z => ?_) (fun H6 z => ?_)
    · obtain ⟨a, n, rfl, ha⟩ := hp4 i x hi
      have ha6 := Same.tup z.1 ha
      rw [fq_int] at ha6
      refine ⟨rfl, .ref a, rfl, a, _, 1, .int 1, rfl, rfl, ha6, rfl, rfl, _, rfl, ?_⟩
      rw [dec_int]
      exact iteN (by simp) z
    obtain ⟨s6, gD⟩ := z
    refine ⟨(by show 0 ≤ sizeLine; decide), fun l3 nl3 => ?_⟩
    have s7 := Same.new (H := H6) (p := l3) (o := .lst []) nl3
    have gl3 : upd H6 l3 (.lst []) l3 = some (.lst []) := upd_same
    generalize upd H6 l3 (.lst []) = H7 at s7 gl3 ⊢
    refine ⟨.list [], .list [], .lst (lst_of (s7 _ _ gD)) .nil, .lst (lst_of gl3) .nil, rfl, rfl, _, rfl, ?_⟩
    rw [show PyData.eqv (.list []) (.list []) = true from rfl]
    refine iteF ?_
    have sD := sC.trans (s6.trans s7)
    have hx7 := Same.tup sD hx
    have gd7 := (s6.trans s7) _ _ gd5
    have hch7 : ChAt K H7 po (chOf c) := ⟨pu, pr, ps, pt, Same.tup (s6.trans s7) hpo5, Same.tup (s5.trans (s6.trans s7)) hu, Same.tup (s5.trans (s6.trans s7)) hr', Same.tup (s5.trans (s6.trans s7)) hs, Same.tup (s5.trans (s6.trans s7)) ht⟩
    clear hpo5 hp4 gD gl3 gl2 hpo hu hr' hs ht gd4 gd5 s5 s6 s7 sC sB
    have bs := hm.s
    have br := hm.r
    have bt := hm.t
    obtain ⟨h1, h2, h3, h4, h6⟩ := hm
    refine ⟨.ref p, rfl, .ref po, rfl, p, po, c, chOf c, rfl, hx7, ⟨h1.up (by decide), h2.up (by decide), h3.up (by decide), h4, h6⟩, hch7, ⟨by show (1 : Rat) ≠ 0; decide, rb_1.up (by decide), (RB.int br (by decide)).up (by decide), (RB.int bs (by decide)).up (by decide), (RB.int bt (by decide)).up (by decide)⟩, rfl, fun H8 tl xs s8 gl8 hl8 => ?_⟩
    rw [qs_red] at hl8
    have okT := iq_ok hrB (by decide) (by decide)
    obtain ⟨dT, wT⟩ := iq_depth (red c)
    refine ⟨.ref tl, .tuple ((intQ (red c)).map dq), rfl, .tup (tup_of gl8) (rf_dp hl8), okT, dT, wT, ?_⟩
    have gd8 := s8 _ _ gd7
    refine ⟨.ref pd, rfl, pd, rfl, ⟨_, tup_of gd8⟩, fun D2 hD2 => ?_⟩
    refine lc_tup (K := K) (a := pd) (xs := (red c).tup) (fun i H4 => Same H8 H4 ∧ FrD H4 D2 (red c).ints i) ⟨Same.new hD2, FrD.new⟩ (fun i H4 _ z => Same.tup z.1 (tup_of gd8)) (fun i x H4 hi z => ?_) (fun H9 z => ?_)
    · obtain ⟨n, rfl, hn⟩ : ∃ n, x = .int n ∧ (red c).ints[i]? = some n := by
        rw [Cv.tup_ints, List.getElem?_map] at hi
        cases e : (red c).ints[i]? with
        | none =>
          rw [e] at hi
          cases hi
        | some y =>
          rw [e] at hi
          exact ⟨y, (Option.some.inj hi).symm, rfl⟩
      have hi5 : i < 5 := (List.getElem?_eq_some_iff.mp hn).1
      refine ⟨rfl, _, rfl, (by show 2 ≤ sizeLine; decide), fun t nt => ?_⟩
      rw [← fq_int n]
      obtain ⟨acc, g1, g2, g3⟩ := FrD.push z.2 hn nt (by omega)
      exact ⟨acc, g1, g2, Same.put (Same.put z.1 (z.1.free nt)) hD2, g3⟩
    obtain ⟨s9, hF⟩ := z
    obtain ⟨ys, gy, ry⟩ := FrD.rf (K := K) hF
    refine ⟨D2, ys, rfl, .inl ⟨lst_of gy, fun t nt => ?_⟩⟩
    have s10 := Same.new (o := .tup ys) nt
    have gt10 : (upd H9 t (.tup ys)) t = some (.tup ys) := upd_same
    refine ⟨.ref t, .tuple ((intQ (red c)).map dq), rfl, .tup (tup_of gt10) (rf_dp (ry.same s10)), okT, dT, wT, rfl, ?_⟩
    generalize (PyData.tuple ((intQ (red c)).map dq)).shown = zz
    have := q _ (sD.trans (s8.trans (s9.trans s10)))
    rw [decide_eq_true (rfl : V.str zz = V.str zz)]
    exact this
end
end K12
set_option Elab.async false
set_option linter.all false
set_option maxRecDepth 100000
set_option maxHeartbeats 400000
namespace K12
open PySem PySem.Spec PyProof.Rows L2 Gd QM
section
variable {P : Program} {w : World} {K : PySem.W.Frag} {mg : Str → Option Value} {base : Heap}
def sp_law_drawn (K : PySem.W.Frag) : Sp := fun vs H Q _ => ∃ (m cl : Addr) (n : Nat), vs = [.ref m] ∧ n ≤ 1000 ∧ MAt H m cl n ∧ ∀ H' t c, But m H H' → MAt H' m cl (n + 200) → SqT K H' t (Cv.tup c) → c.Sm → c.disc ≠ 0 → Q (.ref t) H'
abbrev s__law_drawn : Stmt := topS 36
theorem sc__law_drawn : FnScope ["m", "lap", "one", "two", "five_v", "k"] ["m"] (defScope s__law_drawn) := ⟨rfl, rfl, rfl, by decide +kernel, rfl, by decide +kernel, by decide +kernel⟩
theorem k_law_drawn (T : Tx K mg) (D : Df K mg "_law_drawn" s__law_drawn ["m"]) (c_law_of : Kl P w K mg base 2 "_law_of" (sp_law_of K)) (c_law_numbers : Kl P w K mg base 1 "_law_numbers" (sp_law_numbers K)) (c_law_between : Kl P w K mg base 2 "_law_between" (sp_law_between K)) : Kl P w K mg base 3 "_law_drawn" (sp_law_drawn K) := by
  have nd := sc__law_drawn.nd
  refine Kl.by_body D sc__law_drawn (fun vs H Q E h => ?_) (fun f cdv A outer s H vs Q E hr h => ?_)
  · obtain ⟨_, _, _, rfl, _⟩ := h
    rfl
  · obtain ⟨m, cl, n, rfl, hn, hM, q⟩ := h
    have hu1 := hu_of hr
    refine ⟨_, (pss_cons (ps_for PassesOwn.never rfl (pi_range1 (by rfl) T.range (pa_cons pe_int pa_nil)) (pg_name (i := 1) nd rfl (by first | exact Or.inl rfl | exact Or.inr rfl)) (pss_cons (ps_asg (pe_tup (pa_cons (pe_k c_law_of  hr (by decide) (by rfl) (pa_cons (pv 0) (pa_cons (pe_lst (pa_cons pe_int (pa_cons pe_int pa_nil))) pa_nil))) (pa_cons (pe_k c_law_of  hr (by decide) (by rfl) (pa_cons (pv 0) (pa_cons (pe_lst (pa_cons pe_int (pa_cons pe_int (pa_cons (pe_op op_pow pe_int pe_int) pa_nil)))) pa_nil))) pa_nil))) (pg_tup rfl (pgs_cons (pg_name (i := 2) nd rfl (by first | exact Or.inl rfl | exact Or.inr rfl)) (pgs_cons (pg_name (i := 3) nd rfl (by first | exact Or.inl rfl | exact Or.inr rfl)) pgs_nil))))
      (pss_cons (ps_set (i := 4) nd rfl (by first | exact Or.inl rfl | exact Or.inr rfl) (pe_callTy call_tuple_of (by rfl) T.tuple (by decide +kernel) (pa_cons (pe_op op_cat (pe_lc (own := [("k", 5)]) (g := gName 5) rfl nd (pi_range1 (by rfl) T.range (pa_cons pe_int pa_nil)) (blkOk_by (N := ["m", "lap", "one", "two", "five_v", "k"]) (sc := defScope s__law_drawn) (by decide +kernel)) (fun _ _ _ _ _ => (pg_name (i := 5) nd rfl (by first | exact Or.inl rfl | exact Or.inr rfl))) (fun _ _ _ _ _ => pts_nil) (fun _ _ _ _ _ => (pe_k c_law_between  hr (by decide) (by rfl) (pa_cons (pv 0) (pa_cons (pv 2) pa_nil))))) (pe_lc (own := [("k", 5)]) (g := gName 5) rfl nd (pi_range1 (by rfl) T.range (pa_cons pe_int pa_nil)) (blkOk_by (N := ["m", "lap", "one", "two", "five_v", "k"]) (sc := defScope s__law_drawn) (by decide +kernel)) (fun _ _ _ _ _ => (pg_name (i := 5) nd rfl (by first | exact Or.inl rfl | exact Or.inr rfl))) (fun _ _ _ _ _ => pts_nil) (fun _ _ _ _ _ => (pe_k c_law_between  hr (by decide) (by rfl) (pa_cons (pv 0) (pa_cons (pv 3) pa_nil)))))) pa_nil)))
      (pss_one (ps_if (pt_cmpR op_ne (pe_ix ix_tup (pe_k c_law_numbers  hr (by decide) (by rfl) (pa_cons (pv 4) pa_nil)) pe_int (fun _ _ => rfl)) pe_int (nomark _)) (pss_one (ps_ret (pv 4))) pss_nil)))))
      (pss_one (ps_ret (pe_tup (pa_cons pe_int (pa_cons pe_int (pa_cons pe_int (pa_cons pe_int (pa_cons (pe_un un_neg pe_int) pa_nil))))))))), ?_⟩
    refine ⟨20, rfl, by decide, by decide, for_range (lo := 0) (n := 20) (fun i σ H2 => But m H H2 ∧ MAt H2 m cl (n + 7 * i) ∧ ∃ v1 v2 v3 v4 : Option V, σ = [some (.ref m), v1, v2, v3, v4, none]) ⟨But.refl m H, hM, none, none, none, none, rfl⟩ ?_ ?_⟩
    · rintro i σ H2 hi ⟨b2, m2, v1, v2, v3, v4, rfl⟩
      refine ⟨.ref m, rfl, (by show 2 ≤ sizeLine; decide), fun l1 n1 => ?_⟩
      have s3 := Same.new (H := H2) (p := l1) (o := .lst [.int 3, .int 1000]) n1
      have g3 : upd H2 l1 (.lst [.int 3, .int 1000]) l1 = some (.lst [.int 3, .int 1000]) := upd_same
      generalize upd H2 l1 (.lst [.int 3, .int 1000]) = H3 at s3 g3 ⊢
      refine ⟨m, cl, l1, _, n + 7 * i, rfl, lst_of g3, by decide, by decide, by omega, m2.same s3, fun H4 x1 b4 m4 hx1 => ?_⟩
      obtain ⟨z1, rfl, z10, z11⟩ : ∃ z : Int, x1 = .int z ∧ 0 ≤ z ∧ z ≤ 1000 := by
        simp only [List.mem_cons, List.not_mem_nil, or_false] at hx1
        rcases hx1 with rfl | rfl <;> exact ⟨_, rfl, by decide, by decide⟩
      refine ⟨.ref m, rfl, _, _, rfl, rfl, ⟨by decide, by decide, by decide⟩, (by show 3 ≤ sizeLine; decide), fun l2 n2 => ?_⟩
      have s5 := Same.new (H := H4) (p := l2) (o := .lst [.int 9, .int 400, .int (10 ^ (9 : Int).toNat)]) n2
      have g5 : upd H4 l2 (.lst [.int 9, .int 400, .int (10 ^ (9 : Int).toNat)]) l2 = some (.lst [.int 9, .int 400, .int (10 ^ (9 : Int).toNat)]) := upd_same
      generalize upd H4 l2 (.lst [.int 9, .int 400, .int (10 ^ (9 : Int).toNat)]) = H5 at s5 g5 ⊢
      refine ⟨m, cl, l2, _, n + 7 * i + 1, rfl, lst_of g5, by decide, by decide, by omega, m4.same s5, fun H6 x2 b6 m6 hx2 => ?_⟩
      obtain ⟨z2, rfl, z20, z21⟩ : ∃ z : Int, x2 = .int z ∧ 0 ≤ z ∧ z ≤ 1000000000 := by
        simp only [List.mem_cons, List.not_mem_nil, or_false] at hx2
        rcases hx2 with rfl | rfl | rfl <;> exact ⟨_, rfl, by decide, by decide⟩
      refine ⟨(by show 2 ≤ sizeLine; decide), fun t7 n7 => ?_⟩
      have s7 := Same.new (H := H6) (p := t7) (o := .tup [.int z1, .int z2]) n7
      have g7 : upd H6 t7 (.tup [.int z1, .int z2]) t7 = some (.tup [.int z1, .int z2]) := upd_same
      generalize upd H6 t7 (.tup [.int z1, .int z2]) = H6a at s7 g7 ⊢
      refine ⟨t7, _, rfl, tup_of g7, rfl, _, _, rfl, _, _, rfl, rfl, ?_⟩
      have bA : But m H H6a := b2.trans ((But.of s3).trans (b4.trans ((But.of s5).trans (b6.trans (But.of s7)))))
      replace m6 := m6.same s7
      clear s7 g7
      clear s3 g3 b4 m4 s5 g5 b6 hx1 hx2 b2 m2
      first | refine sigN [some (.ref m), some (.int (0 + (i : Int))), some (.int (z1)), some (.int (z2)), v4, none] (by rfl) ?_ | refine sig [some (.ref m), some (.int (0 + (i : Int))), some (.int (z1)), some (.int (z2)), v4, none] (by rfl) ?_
      refine ⟨3, rfl, by decide, by decide, fun D hD => ?_⟩
      have hmD := m6.ne hD
      refine lc_range (lo := 0) (n := 3) (fun j H3 => ∃ L : List Int, H3 D = some (.lst (L.map V.int)) ∧ L.length = j ∧ (∀ x ∈ L, B 10 x) ∧ But m H6a H3 ∧ MAt H3 m cl (n + 7 * i + 2 + j)) ⟨[], upd_same, rfl, (by intro x hx; cases hx), But.of (Same.new hD), m6.same (Same.new hD)⟩ (fun j H3 hj z => ?_) (fun H3 z => ?_)
      · obtain ⟨L, hL, el, hB, b3, m3⟩ := z
        refine ⟨rfl, _, rfl, _, rfl, m, cl, z1, n + 7 * i + 2 + j, rfl, z10, by omega, by omega, m3, fun H4 r b4 m4 r0 r1 => ?_⟩
        refine ⟨_, b4.lst m3 hL, by rw [List.length_map]; exact small1000 (by omega), L ++ [r], ?_, by rw [List.length_append, el]; rfl, ?_, fun c o e nc => ?_, ?_⟩
        · rw [upd_same, List.map_append]
          rfl
        · intro x hx
          rcases List.mem_append.mp hx with hx | hx
          · exact hB x hx
          · rw [List.mem_singleton.mp hx]
            exact B.between 1000 (by omega) (by omega) (by decide)
        · rw [upd_ne (ne_of_none e hD)]
          exact (b3.trans b4) c o e nc
        · exact m4.put hmD
      obtain ⟨L, hL, el, hB, b3, m3⟩ := z
      refine ⟨2, rfl, by decide, by decide, fun D2 hD2 => ?_⟩
      have hmD2 := m3.ne hD2
      have hDD : D ≠ D2 := ne_of_none hL hD2
      refine lc_range (lo := 0) (n := 2) (fun j H4 => ∃ L : List Int, H4 D2 = some (.lst (L.map V.int)) ∧ L.length = j ∧ (∀ x ∈ L, B 30 x) ∧ But m H3 H4 ∧ MAt H4 m cl (n + 7 * i + 5 + j)) ⟨[], upd_same, rfl, (by intro x hx; cases hx), But.of (Same.new hD2), m3.same (Same.new hD2)⟩ (fun j H4 hj z => ?_) (fun H4 z => ?_)
      · obtain ⟨L, hL, el, hB, b3, m3⟩ := z
        refine ⟨rfl, _, rfl, _, rfl, m, cl, z2, n + 7 * i + 5 + j, rfl, z20, by omega, by omega, m3, fun H5 r b4 m4 r0 r1 => ?_⟩
        refine ⟨_, b4.lst m3 hL, by rw [List.length_map]; exact small1000 (by omega), L ++ [r], ?_, by rw [List.length_append, el]; rfl, ?_, fun c o e nc => ?_, ?_⟩
        · rw [upd_same, List.map_append]
          rfl
        · intro x hx
          rcases List.mem_append.mp hx with hx | hx
          · exact hB x hx
          · rw [List.mem_singleton.mp hx]
            exact B.between 1000000000 (by omega) (by omega) (by decide)
        · rw [upd_ne (ne_of_none e hD2)]
          exact (b3.trans b4) c o e nc
        · exact m4.put hmD2
      obtain ⟨L2, hL2, el2, hB2, b4, m4⟩ := z
      have hL4 := b4.lst m3 hL
      refine ⟨D, D2, _, _, rfl, rfl, hL4, hL2, ?_, fun p3 n3 => ?_⟩
      · rw [List.length_map, List.length_map]
        exact small (by omega)
      rw [← List.map_append]
      obtain ⟨c, hc, ht⟩ : ∃ c : Cv, L ++ L2 = [c.a1, c.a2, c.a3, c.a4, c.a6] ∧ c.Sm := by
        match L, el, L2, el2, hB, hB2 with
        | [x1, x2, x3], _, [x4, x6], _, hB, hB2 => exact ⟨⟨x1, x2, x3, x4, x6⟩, rfl, hB _ (by simp), hB _ (by simp), hB _ (by simp), hB2 _ (by simp), hB2 _ (by simp)⟩
      rw [hc, show [c.a1, c.a2, c.a3, c.a4, c.a6].map V.int = c.tup from rfl]
      have s5 := Same.new (H := H4) (p := p3) (o := .lst c.tup) n3
      have g5 : upd H4 p3 (.lst c.tup) p3 = some (.lst c.tup) := upd_same
      generalize upd H4 p3 (.lst c.tup) = H5 at s5 g5 ⊢
      refine ⟨p3, c.tup, rfl, .inl ⟨lst_of g5, fun f nf => ?_⟩⟩
      have s6 := Same.new (H := H5) (p := f) (o := .tup c.tup) nf
      have g6 : upd H5 f (.tup c.tup) f = some (.tup c.tup) := upd_same
      generalize upd H5 f (.tup c.tup) = H6b at s6 g6 ⊢
      have bB : But m H H6b := bA.trans (b3.trans (b4.trans (But.of (s5.trans s6))))
      have m6b := m4.same (s5.trans s6)
      clear bA b3 b4 m3 m4 hL hL2 hL4 hB hB2 s5 s6 g5 hD hD2 hmD hmD2 hDD m6 hc
      first | refine sigN [some (.ref m), some (.int (0 + (i : Int))), some (.int (z1)), some (.int (z2)), some (.ref f), none] (by rfl) ?_ | refine sig [some (.ref m), some (.int (0 + (i : Int))), some (.int (z1)), some (.int (z2)), some (.ref f), none] (by rfl) ?_
      refine ⟨.ref f, rfl, f, c, rfl, tup_of g6, ht.md, fun u nu => ?_⟩
      have s7 := Same.new (H := H6b) (p := u) (o := .tup c.nums) nu
      have g7 : upd H6b u (.tup c.nums) u = some (.tup c.nums) := upd_same
      generalize upd H6b u (.tup c.nums) = H7 at s7 g7 ⊢
      refine ⟨u, _, 6, .int c.disc, rfl, rfl, tup_of g7, rfl, rfl, _, rfl, ?_⟩
      rw [dec_int]
      have m7 := m6b.same s7
      by_cases hd : c.disc = 0
      · refine iteN (by simp [hd]) ?_
        exact ⟨bB.trans (But.of s7), m7.up (by omega), _, _, _, _, rfl⟩
      · refine iteY (by simp [hd]) ?_
        exact ⟨.ref f, rfl, q _ f c (bB.trans (But.of s7)) (m7.up (by omega)) (tup_of (s7 _ _ g6)) ht hd⟩
    · rintro σ H2 ⟨b2, m2, v1, v2, v3, v4, rfl⟩
      refine ⟨_, rfl, (by show 5 ≤ sizeLine; decide), fun t nt => ?_⟩
      have s3 := Same.new (o := .tup (Cv.tup ⟨1, 0, 1, 4, -6⟩)) nt
      exact q _ t ⟨1, 0, 1, 4, -6⟩ (b2.trans (But.of s3)) ((m2.same s3).up (by omega)) (tup_of upd_same) ⟨B.lit (by decide), B.lit (by decide), B.lit (by decide), B.lit (by decide), B.lit (by decide)⟩ (by decide)
end
end K12
set_option Elab.async false
set_option linter.all false
set_option maxRecDepth 100000
set_option maxHeartbeats 400000
namespace K12
open PySem PySem.Spec PyProof.Rows L2 Gd QM
theorem pair_md {c4 c6 : Int} (h4 : B 59 c4) (h6 : B 104 c6) {c : Cv} (h : pairN c4 c6 12 = [c]) : CvB 110 c := by
  have hm : c ∈ pairN c4 c6 12 := by rw [h]; exact List.mem_cons_self
  unfold pairN at hm
  obtain ⟨k, hk, rfl⟩ := List.mem_map.mp hm
  obtain ⟨h1, h2⟩ := List.mem_filter.mp hk
  have hm := cand_md h4 h6 (List.mem_range.mp h1)
  exact ⟨hm.h1.up (by decide), hm.h2.up (by decide), hm.h3.up (by decide), hm.h4.up (by decide), hm.h6.up (by decide)⟩
theorem u_pow {u : Int} (h0 : 1 ≤ u) (h1 : u ≤ 12) : 1 ≤ u ^ (4 : Int).toNat ∧ B 15 (u ^ (4 : Int).toNat) ∧ 1 ≤ u ^ (6 : Int).toNat ∧ B 22 (u ^ (6 : Int).toNat) := by
  have : u = 1 ∨ u = 2 ∨ u = 3 ∨ u = 4 ∨ u = 5 ∨ u = 6 ∨ u = 7 ∨ u = 8 ∨ u = 9 ∨ u = 10 ∨ u = 11 ∨ u = 12 := by omega
  rcases this with rfl | rfl | rfl | rfl | rfl | rfl | rfl | rfl | rfl | rfl | rfl | rfl <;> exact ⟨by decide, B.lit (by decide), by decide, B.lit (by decide)⟩
theorem fdiv_B {m : Nat} {n d : Int} (hn : B m n) (hd : 1 ≤ d) : B m (n.fdiv d) := by
  rw [Int.fdiv_eq_ediv_of_nonneg _ (by omega)]
  have := Int.natAbs_ediv_le_natAbs n d
  unfold B at *
  omega
section
variable {P : Program} {w : World} {K : PySem.W.Frag} {mg : Str → Option Value} {base : Heap}
def sp_law_pairs_right (K : PySem.W.Frag) : Sp := fun vs H Q _ => ∃ (m cl f : Addr) (c : Cv) (n : Nat), vs = [.ref m, .ref f] ∧ n ≤ 2000 ∧ MAt H m cl n ∧ SqT K H f c.tup ∧ c.Sm ∧ ∀ H', But m H H' → Q (.bl true) H'
abbrev s__law_pairs_right : Stmt := topS 37
theorem sc__law_pairs_right : FnScope ["m", "five_v", "c4", "c6", "lap", "u", "one", "two", "way", "due", "e"] ["m", "five_v"] (defScope s__law_pairs_right) := ⟨rfl, rfl, rfl, by decide +kernel, rfl, by decide +kernel, by decide +kernel⟩
theorem k_law_pairs_right (T : Tx K mg) (D : Df K mg "_law_pairs_right" s__law_pairs_right ["m", "five_v"]) (c_law_between : Kl P w K mg base 2 "_law_between" (sp_law_between K)) (c_law_numbers : Kl P w K mg base 1 "_law_numbers" (sp_law_numbers K)) (c_law_draw : Kl P w K mg base 1 "_law_draw" (sp_law_draw K)) (c_law_pair : Kl P w K mg base 2 "_law_pair" (sp_law_pair K)) (c_law_of : Kl P w K mg base 2 "_law_of" (sp_law_of K)) (c_curve_of : Kl P w K mg base 3 "curve_of" (sp_curve_of K)) : Kg P w K mg base 4 "_law_pairs_right" (sp_law_pairs_right K) := by
  have nd := sc__law_pairs_right.nd
  refine Kg.by_body D sc__law_pairs_right (fun vs H Q E h => ?_) (fun f cdv A outer s H vs Q E hgd hr h => ?_)
  · obtain ⟨_, _, _, _, _, rfl, _⟩ := h
    rfl
  · obtain ⟨m, cl, f, c, n, rfl, hn, hM, hx, hm, q⟩ := h
    have hu1 := hu_of hr
    refine ⟨_, (pss_cons (ps_asg (pe_slice sl_tup (pe_k c_law_numbers  hr (by decide) (by rfl) (pa_cons (pv 1) pa_nil)) (po_some pe_int) (po_some pe_int)) (pg_tup rfl (pgs_cons (pg_name (i := 2) nd rfl (by first | exact Or.inl rfl | exact Or.inr rfl)) (pgs_cons (pg_name (i := 3) nd rfl (by first | exact Or.inl rfl | exact Or.inr rfl)) pgs_nil))))
      (pss_cons (ps_for PassesOwn.never rfl (pi_range1 (by rfl) T.range (pa_cons pe_int pa_nil)) (pg_name (i := 4) nd rfl (by first | exact Or.inl rfl | exact Or.inr rfl)) (pss_cons (ps_par3 (i := 5) (j := 6) (l := 7) (by rfl) nd rfl rfl rfl (by decide) (by decide) (by decide) rfl rfl rfl (pa_cons (pe_k c_law_of  hr (by decide) (by rfl) (pa_cons (pv 0) (pa_cons (pe_lst (pa_cons pe_int (pa_cons pe_int (pa_cons pe_int (pa_cons pe_int (pa_cons pe_int (pa_cons pe_int (pa_cons pe_int pa_nil)))))))) pa_nil))) (pa_cons (pv 2) (pa_cons (pv 3) pa_nil))) (by rfl))
      (C8.pss_cut (ps_if (pt_cmpR op_eq (pe_k c_law_draw  hr (by decide) (by rfl) (pa_cons (pv 0) (pa_cons pe_int pa_nil))) pe_int (nomark _)) (pss_one (ps_par (i := 6) (j := 7) (by rfl) nd rfl rfl (by decide) rfl rfl (pa_cons (pe_op op_mulW (pv 2) (pe_op op_pow (pv 5) pe_int)) (pa_cons (pe_op op_mulW (pv 3) (pe_op op_pow (pv 5) pe_int)) pa_nil)) (by rfl))) (pss_one (ps_if (PW.pt (pw_and (pt_cmpR op_eq (pe_op op_mod (pe_callTy call_intI (by rfl) T.int (by decide +kernel) (pa_cons (pv 2) pa_nil)) (pe_op op_pow (pv 5) pe_int)) pe_int (nomark _)) (pw_and1 (pt_cmpR op_eq (pe_op op_mod (pe_callTy call_intI (by rfl) T.int (by decide +kernel) (pa_cons (pv 3) pa_nil)) (pe_op op_pow (pv 5) pe_int)) pe_int (nomark _))))) (pss_one (ps_par (i := 6) (j := 7) (by rfl) nd rfl rfl (by decide) rfl rfl (pa_cons (pe_op op_fdivAny (pv 2) (pe_op op_pow (pv 5) pe_int)) (pa_cons (pe_op op_fdivAny (pv 3) (pe_op op_pow (pv 5) pe_int)) pa_nil)) (by rfl))) pss_nil)))
      (pss_cons (ps_set (i := 8) nd rfl (by first | exact Or.inl rfl | exact Or.inr rfl) (pe_k c_law_draw  hr (by decide) (by rfl) (pa_cons (pv 0) (pa_cons pe_int pa_nil))))
      (C8.pss_cut (ps_if (pt_cmpR op_lt (pv 8) pe_int (nomark _)) (pss_cons (ps_set (i := 6) nd rfl (by first | exact Or.inl rfl | exact Or.inr rfl) (pe_op op_add (pv 6) (pe_op op_mulW (pe_k c_law_of  hr (by decide) (by rfl) (pa_cons (pv 0) (pa_cons (pe_lst (pa_cons pe_int (pa_cons pe_int (pa_cons (pe_un un_neg pe_int) (pa_cons pe_int (pa_cons pe_int (pa_cons pe_int pa_nil))))))) pa_nil))) (pv 8))))
      (pss_one (ps_set (i := 7) nd rfl (by first | exact Or.inl rfl | exact Or.inr rfl) (pe_op op_add (pv 7) (pe_k c_law_of  hr (by decide) (by rfl) (pa_cons (pv 0) (pa_cons (pe_lst (pa_cons pe_int (pa_cons (pe_un un_neg pe_int) (pa_cons pe_int (pa_cons pe_int (pa_cons pe_int (pa_cons pe_int (pa_cons pe_int (pa_cons pe_int (pa_cons (pe_un un_neg pe_int) (pa_cons pe_int pa_nil))))))))))) pa_nil))))))) pss_nil)
      (C8.pss_cut (ps_if (pt_cmpR op_eq (pv 8) pe_int (nomark _)) (pss_one (ps_set (i := 7) nd rfl (by first | exact Or.inl rfl | exact Or.inr rfl) (pe_un un_neg (pv 7)))) pss_nil)
      (pss_cons (ps_set (i := 9) nd rfl (by first | exact Or.inl rfl | exact Or.inr rfl) (pe_k c_law_pair  hr (by decide) (by rfl) (pa_cons (pv 6) (pa_cons (pv 7) pa_nil))))
      (pss_one (ps_if (pt_cmpR op_ne (pe_callB (call_reprD hgd hr.units) (by rfl) T.repr (by decide +kernel) (pa_cons (pe_k c_curve_of  hr (by decide) (by rfl) (pa_cons (pv 6) (pa_cons (pv 7) pa_nil))) pa_nil)) (pe_callB (call_reprD hgd hr.units) (by rfl) T.repr (by decide +kernel) (pa_cons (pe_ifExp (pt_cmpR (op_neD hr.units) (pv 9) (pe_lst pa_nil) (nomark _)) (pe_ix ix_list (pv 9) pe_int (fun _ _ => rfl)) pe_non) pa_nil)) (nomark _)) (pss_one (ps_ret pe_bl)) pss_nil)))))))))
      (pss_cons (ps_set (i := 10) nd rfl (by first | exact Or.inl rfl | exact Or.inr rfl) (pe_k c_law_between  hr (by decide) (by rfl) (pa_cons (pv 0) (pa_cons pe_int pa_nil))))
      (pss_one (ps_ret (pe_and (pe_cmpR op_isN (pe_k c_curve_of  hr (by decide) (by rfl) (pa_cons (pe_op op_mulW (pv 10) (pv 10)) (pa_cons (pe_op op_pow (pv 10) pe_int) pa_nil))) pe_non (nomark _)) (pe_one (pe_cmpR op_isN (pe_k c_curve_of  hr (by decide) (by rfl) (pa_cons pe_int (pa_cons pe_int pa_nil))) pe_non (nomark _))))))))), ?_⟩
    refine ⟨.ref f, rfl, f, c, rfl, hx, hm.md, fun t nt => ?_⟩
    have s1 := Same.new (H := H) (p := t) (o := .tup c.nums) nt
    have gt : upd H t (.tup c.nums) t = some (.tup c.nums) := upd_same
    generalize upd H t (.tup c.nums) = H1 at s1 gt ⊢
    refine ⟨_, rfl, _, rfl, t, _, rfl, tup_of gt, (by show ¬ (HT.sIx 7 0 (some 4) = 0 ∧ HT.sIx 7 7 (some 6) = 7); decide), fun t2 nt2 => ?_⟩
    have e2 : cutV c.nums (some 4) (some 6) = [.int c.c4, .int c.c6] := rfl
    rw [e2]
    have s2 := Same.new (H := H1) (p := t2) (o := .tup [.int c.c4, .int c.c6]) nt2
    have gt2 : upd H1 t2 (.tup [.int c.c4, .int c.c6]) t2 = some (.tup [.int c.c4, .int c.c6]) := upd_same
    generalize upd H1 t2 (.tup [.int c.c4, .int c.c6]) = H2 at s2 gt2 ⊢
    refine ⟨t2, _, rfl, tup_of gt2, rfl, _, _, rfl, _, _, rfl, rfl, ?_⟩
    have h4 := hm.c4
    have h6 := hm.c6
    have bA : But m H H2 := But.of (s1.trans s2)
    have mA := hM.same (s1.trans s2)
    clear s1 s2 gt gt2 e2 hx hm hM
    generalize c.c4 = c4 at h4 ⊢
    generalize c.c6 = c6 at h6 ⊢
    first | refine sigN [some (.ref m), some (.ref f), some (.int (c4)), some (.int (c6)), none, none, none, none, none, none, none] (by rfl) ?_ | refine sig [some (.ref m), some (.ref f), some (.int (c4)), some (.int (c6)), none, none, none, none, none, none, none] (by rfl) ?_
    refine ⟨12, rfl, by decide, by decide, for_range (lo := 0) (n := 12) (fun i σ H3 => But m H H3 ∧ MAt H3 m cl (n + 5 * i) ∧ ∃ v4 v5 v6 v7 v8 v9 : Option V, σ = [some (.ref m), some (.ref f), some (.int c4), some (.int c6), v4, v5, v6, v7, v8, v9, none]) ⟨bA, mA, none, none, none, none, none, none, rfl⟩ ?_ ?_⟩
    · rintro i σ H3 hi ⟨b3, m3, v4, v5, v6, v7, v8, v9, rfl⟩
      refine ⟨.ref m, rfl, (by show 7 ≤ sizeLine; decide), fun l1 n1 => ?_⟩
      have s4 := Same.new (H := H3) (p := l1) (o := .lst [.int 1, .int 2, .int 3, .int 4, .int 6, .int 5, .int 12]) n1
      have g4 : upd H3 l1 (.lst [.int 1, .int 2, .int 3, .int 4, .int 6, .int 5, .int 12]) l1 = some (.lst [.int 1, .int 2, .int 3, .int 4, .int 6, .int 5, .int 12]) := upd_same
      generalize upd H3 l1 (.lst [.int 1, .int 2, .int 3, .int 4, .int 6, .int 5, .int 12]) = H4 at s4 g4 ⊢
      refine ⟨m, cl, l1, _, n + 5 * i, rfl, lst_of g4, by decide, by decide, by omega, m3.same s4, fun H5 x1 b5 m5 hx1 => ?_⟩
      obtain ⟨u, rfl, u0, u1⟩ : ∃ z : Int, x1 = .int z ∧ 1 ≤ z ∧ z ≤ 12 := by
        simp only [List.mem_cons, List.not_mem_nil, or_false] at hx1
        rcases hx1 with rfl | rfl | rfl | rfl | rfl | rfl | rfl <;> exact ⟨_, rfl, by decide, by decide⟩
      have b35 : But m H H5 := b3.trans ((But.of s4).trans b5)
      clear b3 m3 s4 g4 b5 hx1
      refine ⟨_, rfl, _, rfl, _, _, _, rfl, ?_⟩
      first | refine sigN [some (.ref m), some (.ref f), some (.int (c4)), some (.int (c6)), some (.int (0 + (i : Int))), some (.int (u)), some (.int (c4)), some (.int (c6)), v8, v9, none] (by rfl) ?_ | refine sig [some (.ref m), some (.ref f), some (.int (c4)), some (.int (c6)), some (.int (0 + (i : Int))), some (.int (u)), some (.int (c4)), some (.int (c6)), v8, v9, none] (by rfl) ?_
      obtain ⟨p40, p4B, p60, p6B⟩ := u_pow u0 u1
      have bu : B 64 u := by
        unfold B
        omega
      refine ⟨fun σ H6 => But m H H6 ∧ MAt H6 m cl (n + 5 * i + 2) ∧ ∃ one two : Int, B 58 one ∧ B 102 two ∧ σ = [some (.ref m), some (.ref f), some (.int c4), some (.int c6), some (.int (0 + (i : Int))), some (.int u), some (.int one), some (.int two), v8, v9, none], ?_, ?_⟩
      · refine ⟨.ref m, rfl, m, cl, 2, n + 5 * i + 1, rfl, by decide, by decide, by omega, m5, fun H6 r b6 m6 r0 r1 => ?_⟩
        have b36 := b35.trans b6
        refine ⟨rfl, _, rfl, ?_⟩
        rw [dec_int]
        by_cases hr0 : r = 0
        · refine iteY (by simp [hr0]) ?_
          refine ⟨_, rfl, _, rfl, _, _, rfl, rfl, ⟨by decide, by decide, bu⟩, _, _, rfl, rfl, h4.mulW p4B (by decide), ?_⟩
          refine ⟨_, rfl, _, rfl, _, _, rfl, rfl, ⟨by decide, by decide, bu⟩, _, _, rfl, rfl, h6.mulW p6B (by decide), _, _, rfl, ?_⟩
          exact ⟨b36, m6, _, _, (h4.mul p4B).up (by decide), (h6.mul p6B).up (by decide), rfl⟩
        · refine iteN (by simp [hr0]) ?_
          have skip2 : But m H H6 ∧ MAt H6 m cl (n + 5 * i + 2) ∧ ∃ one two : Int, B 58 one ∧ B 102 two ∧ ([some (.ref m), some (.ref f), some (.int c4), some (.int c6), some (.int (0 + (i : Int))), some (.int u), some (.int c4), some (.int c6), v8, v9, none] : L2.St) = [some (.ref m), some (.ref f), some (.int c4), some (.int c6), some (.int (0 + (i : Int))), some (.int u), some (.int one), some (.int two), v8, v9, none] := ⟨b36, m6, _, _, h4.up (by decide), h6.up (by decide), rfl⟩
          refine ⟨_, rfl, _, rfl, _, rfl, _, _, rfl, rfl, ⟨by decide, by decide, bu⟩, _, _, rfl, rfl, (by omega), rfl, _, rfl, ?_⟩
          rw [dec_int]
          by_cases hq4 : c4 % u ^ (4 : Int).toNat = 0
          · refine iteY (decide_eq_true hq4) ?_
            refine ⟨_, rfl, _, rfl, _, rfl, _, _, rfl, rfl, ⟨by decide, by decide, bu⟩, _, _, rfl, rfl, (by omega), rfl, _, rfl, ?_⟩
            rw [dec_int]
            by_cases hq6 : c6 % u ^ (6 : Int).toNat = 0
            · refine iteY (decide_eq_true hq6) ?_
              refine ⟨_, rfl, _, rfl, _, _, rfl, rfl, ⟨by decide, by decide, bu⟩, _, _, rfl, rfl, div_any (by omega) p4B (by decide), ?_⟩
              refine ⟨_, rfl, _, rfl, _, _, rfl, rfl, ⟨by decide, by decide, bu⟩, _, _, rfl, rfl, div_any (by omega) p6B (by decide), _, _, rfl, ?_⟩
              exact ⟨b36, m6, _, _, (fdiv_B h4 p40).up (by decide), (fdiv_B h6 p60).up (by decide), rfl⟩
            · exact iteN (fun y => hq6 (eq_of_beq y)) skip2
          · exact iteN (fun y => hq4 (eq_of_beq y)) skip2
      rintro σ H6 ⟨b6, m6, one, two, B1, B2, rfl⟩
      refine ⟨.ref m, rfl, m, cl, 4, n + 5 * i + 2, rfl, by decide, by decide, by omega, m6, fun H7 way b7 m7 w0 w1 => ?_⟩
      first | refine sigN [some (.ref m), some (.ref f), some (.int (c4)), some (.int (c6)), some (.int (0 + (i : Int))), some (.int (u)), some (.int (one)), some (.int (two)), some (.int (way)), v9, none] (by rfl) ?_ | refine sig [some (.ref m), some (.ref f), some (.int (c4)), some (.int (c6)), some (.int (0 + (i : Int))), some (.int (u)), some (.int (one)), some (.int (two)), some (.int (way)), v9, none] (by rfl) ?_
      have bw : B 3 way := by
        unfold B
        omega
      have b67 := b6.trans b7
      clear b35 m5 b6 m6 b7 p40 p4B p60 p6B bu
      refine ⟨fun σ H8 => But m H H8 ∧ MAt H8 m cl (n + 5 * i + 5) ∧ ∃ one two : Int, B 59 one ∧ B 103 two ∧ σ = [some (.ref m), some (.ref f), some (.int c4), some (.int c6), some (.int (0 + (i : Int))), some (.int u), some (.int one), some (.int two), some (.int way), v9, none], ?_, ?_⟩
      · refine ⟨_, rfl, _, _, rfl, rfl, _, rfl, ite2 (fun _ => ?_) (fun _ => ?_)⟩
        · refine ⟨_, rfl, .ref m, rfl, _, rfl, (by show 6 ≤ sizeLine; decide), fun l2 n2 => ?_⟩
          have s8 := Same.new (H := H7) (p := l2) (o := .lst [.int 0, .int 1, .int (-1), .int 16, .int 24, .int 48]) n2
          have g8 : upd H7 l2 (.lst [.int 0, .int 1, .int (-1), .int 16, .int 24, .int 48]) l2 = some (.lst [.int 0, .int 1, .int (-1), .int 16, .int 24, .int 48]) := upd_same
          generalize upd H7 l2 (.lst [.int 0, .int 1, .int (-1), .int 16, .int 24, .int 48]) = H8 at s8 g8 ⊢
          refine ⟨m, cl, l2, _, n + 5 * i + 3, rfl, lst_of g8, by decide, by decide, by omega, m7.same s8, fun H9 x2 b9 m9 hx2 => ?_⟩
          obtain ⟨z2, rfl, bz2⟩ : ∃ z : Int, x2 = .int z ∧ B 6 z := by
            simp only [List.mem_cons, List.not_mem_nil, or_false] at hx2
            rcases hx2 with rfl | rfl | rfl | rfl | rfl | rfl <;> exact ⟨_, rfl, B.lit (by decide)⟩
          refine ⟨_, rfl, _, _, rfl, rfl, bz2.mulW bw (by decide), _, _, rfl, rfl, ?_⟩
          have b79 := b67.trans ((But.of s8).trans b9)
          clear s8 g8 b9 hx2
          first | refine sigN [some (.ref m), some (.ref f), some (.int (c4)), some (.int (c6)), some (.int (0 + (i : Int))), some (.int (u)), some (.int (one + z2 * way)), some (.int (two)), some (.int (way)), v9, none] (by rfl) ?_ | refine sig [some (.ref m), some (.ref f), some (.int (c4)), some (.int (c6)), some (.int (0 + (i : Int))), some (.int (u)), some (.int (one + z2 * way)), some (.int (two)), some (.int (way)), v9, none] (by rfl) ?_
          refine ⟨_, rfl, .ref m, rfl, _, rfl, _, rfl, (by show 10 ≤ sizeLine; decide), fun l3 n3 => ?_⟩
          have sa := Same.new (H := H9) (p := l3) (o := .lst [.int 1, .int (-1), .int 8, .int 12, .int 27, .int 72, .int 108, .int 216, .int (-432), .int 864]) n3
          have ga : upd H9 l3 (.lst [.int 1, .int (-1), .int 8, .int 12, .int 27, .int 72, .int 108, .int 216, .int (-432), .int 864]) l3 = some (.lst [.int 1, .int (-1), .int 8, .int 12, .int 27, .int 72, .int 108, .int 216, .int (-432), .int 864]) := upd_same
          generalize upd H9 l3 (.lst [.int 1, .int (-1), .int 8, .int 12, .int 27, .int 72, .int 108, .int 216, .int (-432), .int 864]) = Ha at sa ga ⊢
          refine ⟨m, cl, l3, _, n + 5 * i + 4, rfl, lst_of ga, by decide, by decide, by omega, m9.same sa, fun Hb x3 bb mb hx3 => ?_⟩
          obtain ⟨z3, rfl, bz3⟩ : ∃ z : Int, x3 = .int z ∧ B 12 z := by
            simp only [List.mem_cons, List.not_mem_nil, or_false] at hx3
            rcases hx3 with rfl | rfl | rfl | rfl | rfl | rfl | rfl | rfl | rfl | rfl <;> exact ⟨_, rfl, B.lit (by decide)⟩
          refine ⟨_, _, rfl, rfl, ?_⟩
          exact ⟨b79.trans ((But.of sa).trans bb), mb, _, _, (B1.add (bz2.mul bw)).up (by decide), (B2.add bz3).up (by decide), rfl⟩
        · exact ⟨b67, m7.up (by omega), _, _, B1.up (by decide), B2.up (by decide), rfl⟩
      clear B1 B2 b67 m7
      rintro σ H8 ⟨b8, m8, one, two, B1, B2, rfl⟩
      refine ⟨fun σ H9 => H9 = H8 ∧ ∃ two : Int, B 103 two ∧ σ = [some (.ref m), some (.ref f), some (.int c4), some (.int c6), some (.int (0 + (i : Int))), some (.int u), some (.int one), some (.int two), some (.int way), v9, none], ?_, ?_⟩
      · refine ⟨_, rfl, rfl, _, rfl, ?_⟩
        rw [dec_int]
        by_cases hw3 : way = 3
        · refine iteY (by simp [hw3]) ?_
          exact ⟨_, rfl, _, rfl, rfl, _, B2.neg, rfl⟩
        · exact iteN (by simp [hw3]) ⟨rfl, _, B2, rfl⟩
      clear B2
      rintro σ H9 ⟨rfl, two, B2, rfl⟩
      have B2' : B 104 two := B2.up (by decide)
      refine ⟨_, rfl, _, rfl, one, two, rfl, B1, B2', fun Ha D sa hcv => ?_⟩
      first | refine sigN [some (.ref m), some (.ref f), some (.int (c4)), some (.int (c6)), some (.int (0 + (i : Int))), some (.int (u)), some (.int (one)), some (.int (two)), some (.int (way)), some (.ref D), none] (by rfl) ?_ | refine sig [some (.ref m), some (.ref f), some (.int (c4)), some (.int (c6)), some (.int (0 + (i : Int))), some (.int (u)), some (.int (one)), some (.int (two)), some (.int (way)), some (.ref D), none] (by rfl) ?_
      obtain ⟨L, gL, eL, hL⟩ := hcv
      refine ⟨_, rfl, _, rfl, one, two, rfl, B1.up (by decide), B2.up (by decide), fun hc Hb sb => ?_, fun cc t Hb hc sb gt => ?_⟩
      · have hnil : pairN one two 12 = [] := by
          rcases due_is one two with ⟨e, _⟩ | ⟨cc, _, e, _⟩
          · exact e
          · rw [hc] at e
            cases e
        rw [hnil] at eL
        obtain rfl := List.length_eq_zero_iff.mp eL
        refine ⟨.non, .none, rfl, .non, rfl, (by decide), (by decide), ?_⟩
        refine ⟨.ref D, rfl, (by show 0 ≤ sizeLine; decide), fun l3 nl3 => ?_⟩
        have sc := Same.new (H := Hb) (p := l3) (o := .lst []) nl3
        have gl3 : upd Hb l3 (.lst []) l3 = some (.lst []) := upd_same
        generalize upd Hb l3 (.lst []) = Hc at sc gl3 ⊢
        refine ⟨.list [], .list [], .lst (lst_of (sc _ _ (sb _ _ gL))) .nil, .lst (lst_of gl3) .nil, rfl, rfl, _, rfl, ?_⟩
        rw [show PyData.eqv (.list []) (.list []) = true from rfl]
        refine iteF ?_
        refine ⟨.non, .none, rfl, .non, rfl, (by decide), (by decide), rfl, _, rfl, ?_⟩
        generalize PyData.none.shown = zz
        refine iteNS rfl ?_
        have sAll := sa.trans (sb.trans sc)
        exact ⟨b8.trans (But.of sAll), (m8.same sAll).up (by omega), _, _, _, _, _, _, rfl⟩
      · have hone : pairN one two 12 = [cc] := by
          rcases due_is one two with ⟨_, e⟩ | ⟨c', e1, e, _⟩
          · rw [hc] at e
            cases e
          · rw [hc] at e
            obtain rfl := Option.some.inj e
            exact e1
        have hcB := pair_md B1 B2' hone
        rw [hone] at eL hL
        obtain ⟨z, rfl⟩ : ∃ z, L = [z] := by
          match L, eL with
          | [z], _ => exact ⟨z, rfl⟩
        obtain ⟨e, he, gz⟩ := hL 0 z rfl
        obtain rfl := Option.some.inj he
        refine ⟨.ref t, dcv cc, rfl, dp_cv (tup_of gt), cv_ok hcB (by decide), (cv_depth _).1, (cv_wt _).1, ?_⟩
        refine ⟨.ref D, rfl, (by show 0 ≤ sizeLine; decide), fun l3 nl3 => ?_⟩
        have sc := Same.new (H := Hb) (p := l3) (o := .lst []) nl3
        have gl3 : upd Hb l3 (.lst []) l3 = some (.lst []) := upd_same
        generalize upd Hb l3 (.lst []) = Hc at sc gl3 ⊢
        have gD := sc _ _ (sb _ _ gL)
        have gz' := Same.tup sc (Same.tup sb gz)
        refine ⟨.list [dcv cc], .list [], .lst (lst_of gD) (.cons (dp_cv gz') .nil), .lst (lst_of gl3) .nil, rfl, rfl, _, rfl, ?_⟩
        rw [show PyData.eqv (.list [dcv cc]) (.list []) = false from rfl]
        refine iteT ?_
        refine ⟨.ref D, rfl, D, _, 0, .ref z, rfl, rfl, lst_of gD, rfl, ?_⟩
        refine ⟨.ref z, dcv cc, rfl, dp_cv gz', cv_ok hcB (by decide), (cv_depth _).1, (cv_wt _).1, rfl, _, rfl, ?_⟩
        generalize (dcv cc).shown = zz
        refine iteNS rfl ?_
        have sAll := sa.trans (sb.trans sc)
        exact ⟨b8.trans (But.of sAll), (m8.same sAll).up (by omega), _, _, _, _, _, _, rfl⟩
    · rintro σ H3 ⟨b3, m3, v4, v5, v6, v7, v8, v9, rfl⟩
      refine ⟨.ref m, rfl, m, cl, 40, n + 5 * 12, rfl, by decide, by decide, by omega, m3, fun H4 e b4 m4 e0 e1 => ?_⟩
      have bE : B 6 e := by
        unfold B
        omega
      have bE3 : B 20 (e ^ (3 : Int).toNat) := (bE.pow 3).up (by decide)
      have bEE : B 12 (e * e) := bE.mul bE
      refine ⟨_, rfl, _, rfl, _, _, rfl, rfl, bE.mulW bE (by decide), _, rfl, _, _, rfl, rfl, ⟨by decide, by decide, bE.up (by decide)⟩, _, _, rfl, bEE.up (by decide), bE3.up (by decide), fun _ H5 s5 => ?_, fun cc t H' hc => ?_⟩
      case refine_2 =>
        have : curveOf (e * e) (e ^ (3 : Int).toNat) = none := curve_sq e
        rw [this] at hc
        cases hc
      refine ⟨rfl, _, rfl, iteT ?_⟩
      refine ⟨_, _, rfl, B.lit (by decide), B.lit (by decide), fun _ H6 s6 => ?_, fun cc t H' hc => ?_⟩
      case refine_2 =>
        have : curveOf 0 0 = none := curve_sq 0
        rw [this] at hc
        cases hc
      exact ⟨rfl, q _ (b3.trans (b4.trans (But.of (s5.trans s6))))⟩
end
end K12
set_option Elab.async false
set_option linter.all false
set_option maxRecDepth 100000
set_option maxHeartbeats 400000
namespace K12
open PySem PySem.Spec PyProof.Rows L2 Gd QM
section
variable {P : Program} {w : World} {K : PySem.W.Frag} {mg : Str → Option Value} {base : Heap}
/-! ### the law -/
def sp_law (K : PySem.W.Frag) : Sp := fun vs H Q _ => ∃ (a : Addr) (ns : List Int), vs = [.ref a] ∧ SqL K H a (ns.map V.int) ∧ ns.length ≤ 63 ∧ ∀ H', Q (.bl true) H'
theorem last1 : curveOf 48 (-216) = some ⟨0, 0, 1, -1, 0⟩ := rfl
theorem last2 : curveOf 768 (-13824) = some ⟨0, 0, 0, -16, 16⟩ := rfl
abbrev s_law : Stmt := topS 38
theorem sc_law : FnScope ["script", "k", "m", "five_v"] ["script"] (defScope s_law) := ⟨rfl, rfl, rfl, by decide +kernel, rfl, by decide +kernel, by decide +kernel⟩
theorem k_law {fl : Addr} {fdl : FuncData} (T : Tx K mg) (Fl : Fun K "law" "law" s_law fl fdl) (c_law_begun : Kl P w K mg base 1 "_law_begun" (sp_law_begun K)) (c_law_drawn : Kl P w K mg base 3 "_law_drawn" (sp_law_drawn K)) (c_law_reduced_right : Kg P w K mg base 6 "_law_reduced_right" (sp_law_reduced_right K)) (c_law_pairs_right : Kg P w K mg base 4 "_law_pairs_right" (sp_law_pairs_right K)) (c_curve_of : Kl P w K mg base 3 "curve_of" (sp_curve_of K)) : FnG P w K mg base 7 fl fdl ["script"] (sp_law K) := by
  have nd := sc_law.nd
  refine FnG.by_body Fl sc_law (fun vs H Q E h => ?_) (fun cdv A outer s H vs Q E hgd hr h => ?_)
  · obtain ⟨_, _, rfl, _⟩ := h
    rfl
  · obtain ⟨a, ns, rfl, hx, hl, q⟩ := h
    have hu1 := hu_of hr
    refine ⟨_, (pss_cons (ps_for PassesOwn.never rfl (pi_range1 (by rfl) T.range (pa_cons pe_int pa_nil)) (pg_name (i := 1) nd rfl (by first | exact Or.inl rfl | exact Or.inr rfl)) (pss_cons (ps_set (i := 2) nd rfl (by first | exact Or.inl rfl | exact Or.inr rfl) (pe_k c_law_begun  hr (by decide) (by rfl) (pa_cons (pv 0) (pa_cons (pv 1) pa_nil))))
      (pss_cons (ps_set (i := 3) nd rfl (by first | exact Or.inl rfl | exact Or.inr rfl) (pe_k c_law_drawn  hr (by decide) (by rfl) (pa_cons (pv 2) pa_nil)))
      (pss_one (ps_if (PW.pt (pw_or (pt_not (pt_val (pe_g c_law_reduced_right hgd hr (by decide) (by rfl) (pa_cons (pv 3) pa_nil)))) (pw_or1 (pt_not (pt_val (pe_g c_law_pairs_right hgd hr (by decide) (by rfl) (pa_cons (pv 2) (pa_cons (pv 3) pa_nil)))))))) (pss_one (ps_ret pe_bl)) pss_nil)))))
      (pss_one (ps_ret (pe_cmpR op_eq (pe_callB (call_reprD hgd hr.units) (by rfl) T.repr (by decide +kernel) (pa_cons (pe_lst (pa_cons (pe_k c_curve_of  hr (by decide) (by rfl) (pa_cons pe_int (pa_cons (pe_un un_neg pe_int) pa_nil))) (pa_cons (pe_k c_curve_of  hr (by decide) (by rfl) (pa_cons pe_int (pa_cons (pe_un un_neg pe_int) pa_nil))) pa_nil))) pa_nil)) (pe_callB (call_reprD hgd hr.units) (by rfl) T.repr (by decide +kernel) (pa_cons (pe_lst (pa_cons (pe_tup (pa_cons pe_int (pa_cons pe_int (pa_cons pe_int (pa_cons (pe_un un_neg pe_int) (pa_cons pe_int pa_nil)))))) (pa_cons (pe_tup (pa_cons pe_int (pa_cons pe_int (pa_cons pe_int (pa_cons (pe_un un_neg pe_int) (pa_cons pe_int pa_nil)))))) pa_nil))) pa_nil)) (nomark _))))), ?_⟩
    refine ⟨3, rfl, by decide, by decide, ?_⟩
    refine for_range (lo := 0) (n := 3) (fun i σ H2 => Same H H2 ∧ ∃ v1 v2 v3 : Option V, σ = [some (.ref a), v1, v2, v3]) ⟨Same.refl _, none, none, none, rfl⟩ ?_ ?_
    · rintro i σ H2 hi ⟨s2, v1, v2, v3, rfl⟩
      refine ⟨.ref a, rfl, _, rfl, a, _, ns, rfl, s2.seq hx, hl, by omega, by omega, fun H3 m cl s3 nm ncl hM => ?_⟩
      first | refine sigN [some (.ref a), some (.int (0 + (i : Int))), some (.ref m), v3] (by rfl) ?_ | refine sig [some (.ref a), some (.int (0 + (i : Int))), some (.ref m), v3] (by rfl) ?_
      refine ⟨.ref m, rfl, m, cl, 0, rfl, by decide, hM, fun H4 f c b4 m4 gf hS hd => ?_⟩
      first | refine sigN [some (.ref a), some (.int (0 + (i : Int))), some (.ref m), some (.ref f)] (by rfl) ?_ | refine sig [some (.ref a), some (.int (0 + (i : Int))), some (.ref m), some (.ref f)] (by rfl) ?_
      refine ⟨.ref f, rfl, f, c, rfl, gf, hS, hd, fun H5 s5 => ⟨_, rfl, ?_⟩⟩
      refine iteF ?_
      refine ⟨.ref m, rfl, .ref f, rfl, m, cl, f, c, _, rfl, by decide, m4.same s5, Same.tup s5 gf, hS, fun H6 b6 => ⟨_, rfl, ?_⟩⟩
      refine iteF ?_
      exact ⟨s2.trans (But.same s3 (b4.trans ((But.of s5).trans b6)) nm), _, _, _, rfl⟩
    · rintro σ H2 ⟨s2, v1, v2, v3, rfl⟩
      refine ⟨_, rfl, _, _, rfl, B.lit (by decide), B.lit (by decide), fun hc => ?_, fun c1 t1 H3 hc s3 g1 => ?_⟩
      · rw [last1] at hc
        cases hc
      rw [last1] at hc
      obtain rfl := Option.some.inj hc
      refine ⟨_, rfl, _, _, rfl, B.lit (by decide), B.lit (by decide), fun hc2 => ?_, fun c2 t2 H4 hc2 s4 g2 => ?_⟩
      · rw [last2] at hc2
        cases hc2
      rw [last2] at hc2
      obtain rfl := Option.some.inj hc2
      refine ⟨(by show 2 ≤ sizeLine; decide), fun l nl => ?_⟩
      have s5 := Same.new (H := H4) (p := l) (o := .lst [.ref t1, .ref t2]) nl
      have gl : upd H4 l (.lst [.ref t1, .ref t2]) l = some (.lst [.ref t1, .ref t2]) := upd_same
      generalize upd H4 l (.lst [.ref t1, .ref t2]) = H5 at s5 gl ⊢
      refine ⟨.ref l, .list [dcv ⟨0, 0, 1, -1, 0⟩, dcv ⟨0, 0, 0, -16, 16⟩], rfl, .lst (lst_of gl) (.cons (dp_cv (tup_of (s5 _ _ (s4 _ _ g1)))) (.cons (dp_cv (tup_of (s5 _ _ g2))) .nil)), (by decide +kernel), (by decide +kernel), (by decide +kernel), ?_⟩
      refine ⟨_, rfl, (by show 5 ≤ sizeLine; decide), fun k1 nk1 => ?_⟩
      rw [show upd H5 k1 (.tup [.int 0, .int 0, .int 1, (fun i : Int => V.int (-i)) 1, .int 0]) = upd H5 k1 (.tup [.int 0, .int 0, .int 1, .int (-1), .int 0]) from rfl]
      have s6 := Same.new (H := H5) (p := k1) (o := .tup [.int 0, .int 0, .int 1, .int (-1), .int 0]) nk1
      have g6 : upd H5 k1 (.tup [.int 0, .int 0, .int 1, .int (-1), .int 0]) k1 = some (.tup [.int 0, .int 0, .int 1, .int (-1), .int 0]) := upd_same
      generalize upd H5 k1 (.tup [.int 0, .int 0, .int 1, .int (-1), .int 0]) = H6 at s6 g6 ⊢
      refine ⟨_, rfl, (by show 5 ≤ sizeLine; decide), fun k2 nk2 => ?_⟩
      rw [show upd H6 k2 (.tup [.int 0, .int 0, .int 0, (fun i : Int => V.int (-i)) 16, .int 16]) = upd H6 k2 (.tup [.int 0, .int 0, .int 0, .int (-16), .int 16]) from rfl]
      have s7 := Same.new (H := H6) (p := k2) (o := .tup [.int 0, .int 0, .int 0, .int (-16), .int 16]) nk2
      have g7 : upd H6 k2 (.tup [.int 0, .int 0, .int 0, .int (-16), .int 16]) k2 = some (.tup [.int 0, .int 0, .int 0, .int (-16), .int 16]) := upd_same
      generalize upd H6 k2 (.tup [.int 0, .int 0, .int 0, .int (-16), .int 16]) = H7 at s7 g7 ⊢
      refine ⟨(by show 2 ≤ sizeLine; decide), fun l2 nl2 => ?_⟩
      have s8 := Same.new (H := H7) (p := l2) (o := .lst [.ref k1, .ref k2]) nl2
      have gl2 : upd H7 l2 (.lst [.ref k1, .ref k2]) l2 = some (.lst [.ref k1, .ref k2]) := upd_same
      generalize upd H7 l2 (.lst [.ref k1, .ref k2]) = H8 at s8 gl2 ⊢
      refine ⟨.ref l2, .list [dcv ⟨0, 0, 1, -1, 0⟩, dcv ⟨0, 0, 0, -16, 16⟩], rfl, .lst (lst_of gl2) (.cons (dp_cv (tup_of (s8 _ _ (s7 _ _ g6)))) (.cons (dp_cv (tup_of (s8 _ _ g7))) .nil)), (by decide +kernel), (by decide +kernel), (by decide +kernel), rfl, ?_⟩
      generalize (PyData.list [dcv ⟨0, 0, 1, -1, 0⟩, dcv ⟨0, 0, 0, -16, 16⟩]).shown = zz
      rw [decide_eq_true (rfl : V.str zz = V.str zz)]
      exact q _
end
end K12
set_option Elab.async false
set_option linter.all false
set_option maxRecDepth 100000
set_option maxHeartbeats 4000000
namespace K12
open PySem PySem.Spec PyProof.Rows L2 Gd
theorem all_mk {P : Program} {w : World} {K : PySem.W.Frag} {h : Heap} {mg : Str → Option Value} {fa : Addr} (X : K.In h) (G : h.Ns mainGlobals mg) (hfa : mg "law" = some (.ref fa))
    {f2 : Addr} {od2 an2 : Option Addr} {sl2 : Array (Option Value)} {oc2 kV2 dc2 pm2 cd2 ct2 : Value}
    {f4 : Addr} {od4 an4 : Option Addr} {sl4 : Array (Option Value)} {oc4 kV4 dc4 pm4 cd4 ct4 : Value}
    {f6 : Addr} {od6 an6 : Option Addr} {sl6 : Array (Option Value)} {oc6 kV6 dc6 pm6 cd6 ct6 : Value}
    {f7 : Addr} {od7 an7 : Option Addr} {sl7 : Array (Option Value)} {oc7 kV7 dc7 pm7 cd7 ct7 : Value}
    {f8 : Addr} {od8 an8 : Option Addr} {sl8 : Array (Option Value)} {oc8 kV8 dc8 pm8 cd8 ct8 : Value}
    {f9 : Addr} {od9 an9 : Option Addr} {sl9 : Array (Option Value)} {oc9 kV9 dc9 pm9 cd9 ct9 : Value}
    {f10 : Addr} {od10 an10 : Option Addr} {sl10 : Array (Option Value)} {oc10 kV10 dc10 pm10 cd10 ct10 : Value}
    {f11 : Addr} {od11 an11 : Option Addr} {sl11 : Array (Option Value)} {oc11 kV11 dc11 pm11 cd11 ct11 : Value}
    {f13 : Addr} {od13 an13 : Option Addr} {sl13 : Array (Option Value)} {oc13 kV13 dc13 pm13 cd13 ct13 : Value}
    {f14 : Addr} {od14 an14 : Option Addr} {sl14 : Array (Option Value)} {oc14 kV14 dc14 pm14 cd14 ct14 : Value}
    {f17 : Addr} {od17 an17 : Option Addr} {sl17 : Array (Option Value)} {oc17 kV17 dc17 pm17 cd17 ct17 : Value}
    {f18 : Addr} {od18 an18 : Option Addr} {sl18 : Array (Option Value)} {oc18 kV18 dc18 pm18 cd18 ct18 : Value}
    {f19 : Addr} {od19 an19 : Option Addr} {sl19 : Array (Option Value)} {oc19 kV19 dc19 pm19 cd19 ct19 : Value}
    {f20 : Addr} {od20 an20 : Option Addr} {sl20 : Array (Option Value)} {oc20 kV20 dc20 pm20 cd20 ct20 : Value}
    {f22 : Addr} {od22 an22 : Option Addr} {sl22 : Array (Option Value)} {oc22 kV22 dc22 pm22 cd22 ct22 : Value}
    {f23 : Addr} {od23 an23 : Option Addr} {sl23 : Array (Option Value)} {oc23 kV23 dc23 pm23 cd23 ct23 : Value}
    {f24 : Addr} {od24 an24 : Option Addr} {sl24 : Array (Option Value)} {oc24 kV24 dc24 pm24 cd24 ct24 : Value}
    {f25 : Addr} {od25 an25 : Option Addr} {sl25 : Array (Option Value)} {oc25 kV25 dc25 pm25 cd25 ct25 : Value}
    {f26 : Addr} {od26 an26 : Option Addr} {sl26 : Array (Option Value)} {oc26 kV26 dc26 pm26 cd26 ct26 : Value}
    {f27 : Addr} {od27 an27 : Option Addr} {sl27 : Array (Option Value)} {oc27 kV27 dc27 pm27 cd27 ct27 : Value}
    {f28 : Addr} {od28 an28 : Option Addr} {sl28 : Array (Option Value)} {oc28 kV28 dc28 pm28 cd28 ct28 : Value}
    {f29 : Addr} {od29 an29 : Option Addr} {sl29 : Array (Option Value)} {oc29 kV29 dc29 pm29 cd29 ct29 : Value}
    {f30 : Addr} {od30 an30 : Option Addr} {sl30 : Array (Option Value)} {oc30 kV30 dc30 pm30 cd30 ct30 : Value}
    {f31 : Addr} {od31 an31 : Option Addr} {sl31 : Array (Option Value)} {oc31 kV31 dc31 pm31 cd31 ct31 : Value}
    {f32 : Addr} {od32 an32 : Option Addr} {sl32 : Array (Option Value)} {oc32 kV32 dc32 pm32 cd32 ct32 : Value}
    {f33 : Addr} {od33 an33 : Option Addr} {sl33 : Array (Option Value)} {oc33 kV33 dc33 pm33 cd33 ct33 : Value}
    {f34 : Addr} {od34 an34 : Option Addr} {sl34 : Array (Option Value)} {oc34 kV34 dc34 pm34 cd34 ct34 : Value}
    {f35 : Addr} {od35 an35 : Option Addr} {sl35 : Array (Option Value)} {oc35 kV35 dc35 pm35 cd35 ct35 : Value}
    {f36 : Addr} {od36 an36 : Option Addr} {sl36 : Array (Option Value)} {oc36 kV36 dc36 pm36 cd36 ct36 : Value}
    {f37 : Addr} {od37 an37 : Option Addr} {sl37 : Array (Option Value)} {oc37 kV37 dc37 pm37 cd37 ct37 : Value}
    {f38 : Addr} {od38 an38 : Option Addr} {sl38 : Array (Option Value)} {oc38 kV38 dc38 pm38 cd38 ct38 : Value}
    {aT_REDUCED_B2 : Addr} {odT_REDUCED_B2 : Option Addr} {nT_REDUCED_B2 : Nat} {slT_REDUCED_B2 : Array (Option Value)} {uT_REDUCED_B2_0 uT_REDUCED_B2_1 uT_REDUCED_B2_2 uT_REDUCED_B2_3 uT_REDUCED_B2_4 uT_REDUCED_B2_5 : Tok}
    (a2 : PySem.W.nsIn K mainGlobals "lowest" = some (some (.ref f2))) (l2 : K.lookup f2 = some ⟨oc2, od2, .func (PySem.W.fnOf "lowest" "lowest" (defArgs s_lowest) (defBody s_lowest) (defScope s_lowest) .none kV2 dc2 pm2 an2 cd2 ct2), sl2⟩) (c2 : PySem.W.codeIn K cd2 "lowest" = true) (k2 : PySem.W.keepIn K (.ref f2) = true)
    (a4 : PySem.W.nsIn K mainGlobals "five" = some (some (.ref f4))) (l4 : K.lookup f4 = some ⟨oc4, od4, .func (PySem.W.fnOf "five" "five" (defArgs s_five) (defBody s_five) (defScope s_five) .none kV4 dc4 pm4 an4 cd4 ct4), sl4⟩) (c4 : PySem.W.codeIn K cd4 "five" = true) (k4 : PySem.W.keepIn K (.ref f4) = true)
    (a6 : PySem.W.nsIn K mainGlobals "plus" = some (some (.ref f6))) (l6 : K.lookup f6 = some ⟨oc6, od6, .func (PySem.W.fnOf "plus" "plus" (defArgs s_plus) (defBody s_plus) (defScope s_plus) .none kV6 dc6 pm6 an6 cd6 ct6), sl6⟩) (c6 : PySem.W.codeIn K cd6 "plus" = true) (k6 : PySem.W.keepIn K (.ref f6) = true)
    (a7 : PySem.W.nsIn K mainGlobals "times" = some (some (.ref f7))) (l7 : K.lookup f7 = some ⟨oc7, od7, .func (PySem.W.fnOf "times" "times" (defArgs s_times) (defBody s_times) (defScope s_times) .none kV7 dc7 pm7 an7 cd7 ct7), sl7⟩) (c7 : PySem.W.codeIn K cd7 "times" = true) (k7 : PySem.W.keepIn K (.ref f7) = true)
    (a8 : PySem.W.nsIn K mainGlobals "over" = some (some (.ref f8))) (l8 : K.lookup f8 = some ⟨oc8, od8, .func (PySem.W.fnOf "over" "over" (defArgs s_over) (defBody s_over) (defScope s_over) .none kV8 dc8 pm8 an8 cd8 ct8), sl8⟩) (c8 : PySem.W.codeIn K cd8 "over" = true) (k8 : PySem.W.keepIn K (.ref f8) = true)
    (a9 : PySem.W.nsIn K mainGlobals "whole_fraction" = some (some (.ref f9))) (l9 : K.lookup f9 = some ⟨oc9, od9, .func (PySem.W.fnOf "whole_fraction" "whole_fraction" (defArgs s_whole_fraction) (defBody s_whole_fraction) (defScope s_whole_fraction) .none kV9 dc9 pm9 an9 cd9 ct9), sl9⟩) (c9 : PySem.W.codeIn K cd9 "whole_fraction" = true) (k9 : PySem.W.keepIn K (.ref f9) = true)
    (a10 : PySem.W.nsIn K mainGlobals "total" = some (some (.ref f10))) (l10 : K.lookup f10 = some ⟨oc10, od10, .func (PySem.W.fnOf "total" "total" (defArgs s_total) (defBody s_total) (defScope s_total) .none kV10 dc10 pm10 an10 cd10 ct10), sl10⟩) (c10 : PySem.W.codeIn K cd10 "total" = true) (k10 : PySem.W.keepIn K (.ref f10) = true)
    (a11 : PySem.W.nsIn K mainGlobals "product" = some (some (.ref f11))) (l11 : K.lookup f11 = some ⟨oc11, od11, .func (PySem.W.fnOf "product" "product" (defArgs s_product) (defBody s_product) (defScope s_product) .none kV11 dc11 pm11 an11 cd11 ct11), sl11⟩) (c11 : PySem.W.codeIn K cd11 "product" = true) (k11 : PySem.W.keepIn K (.ref f11) = true)
    (a13 : PySem.W.nsIn K mainGlobals "led" = some (some (.ref f13))) (l13 : K.lookup f13 = some ⟨oc13, od13, .func (PySem.W.fnOf "led" "led" (defArgs s_led) (defBody s_led) (defScope s_led) .none kV13 dc13 pm13 an13 cd13 ct13), sl13⟩) (c13 : PySem.W.codeIn K cd13 "led" = true) (k13 : PySem.W.keepIn K (.ref f13) = true)
    (a14 : PySem.W.nsIn K mainGlobals "whole_curve" = some (some (.ref f14))) (l14 : K.lookup f14 = some ⟨oc14, od14, .func (PySem.W.fnOf "whole_curve" "whole_curve" (defArgs s_whole_curve) (defBody s_whole_curve) (defScope s_whole_curve) .none kV14 dc14 pm14 an14 cd14 ct14), sl14⟩) (c14 : PySem.W.codeIn K cd14 "whole_curve" = true) (k14 : PySem.W.keepIn K (.ref f14) = true)
    (a17 : PySem.W.nsIn K mainGlobals "reduced" = some (some (.ref f17))) (l17 : K.lookup f17 = some ⟨oc17, od17, .func (PySem.W.fnOf "reduced" "reduced" (defArgs s_reduced) (defBody s_reduced) (defScope s_reduced) .none kV17 dc17 pm17 an17 cd17 ct17), sl17⟩) (c17 : PySem.W.codeIn K cd17 "reduced" = true) (k17 : PySem.W.keepIn K (.ref f17) = true)
    (a18 : PySem.W.nsIn K mainGlobals "over_whole" = some (some (.ref f18))) (l18 : K.lookup f18 = some ⟨oc18, od18, .func (PySem.W.fnOf "over_whole" "over_whole" (defArgs s_over_whole) (defBody s_over_whole) (defScope s_over_whole) .none kV18 dc18 pm18 an18 cd18 ct18), sl18⟩) (c18 : PySem.W.codeIn K cd18 "over_whole" = true) (k18 : PySem.W.keepIn K (.ref f18) = true)
    (a19 : PySem.W.nsIn K mainGlobals "told_numbers" = some (some (.ref f19))) (l19 : K.lookup f19 = some ⟨oc19, od19, .func (PySem.W.fnOf "told_numbers" "told_numbers" (defArgs s_told_numbers) (defBody s_told_numbers) (defScope s_told_numbers) .none kV19 dc19 pm19 an19 cd19 ct19), sl19⟩) (c19 : PySem.W.codeIn K cd19 "told_numbers" = true) (k19 : PySem.W.keepIn K (.ref f19) = true)
    (a20 : PySem.W.nsIn K mainGlobals "curve_of" = some (some (.ref f20))) (l20 : K.lookup f20 = some ⟨oc20, od20, .func (PySem.W.fnOf "curve_of" "curve_of" (defArgs s_curve_of) (defBody s_curve_of) (defScope s_curve_of) .none kV20 dc20 pm20 an20 cd20 ct20), sl20⟩) (c20 : PySem.W.codeIn K cd20 "curve_of" = true) (k20 : PySem.W.keepIn K (.ref f20) = true)
    (a22 : PySem.W.nsIn K mainGlobals "_law_begun" = some (some (.ref f22))) (l22 : K.lookup f22 = some ⟨oc22, od22, .func (PySem.W.fnOf "_law_begun" "_law_begun" (defArgs s__law_begun) (defBody s__law_begun) (defScope s__law_begun) .none kV22 dc22 pm22 an22 cd22 ct22), sl22⟩) (c22 : PySem.W.codeIn K cd22 "_law_begun" = true) (k22 : PySem.W.keepIn K (.ref f22) = true)
    (a23 : PySem.W.nsIn K mainGlobals "_law_draw" = some (some (.ref f23))) (l23 : K.lookup f23 = some ⟨oc23, od23, .func (PySem.W.fnOf "_law_draw" "_law_draw" (defArgs s__law_draw) (defBody s__law_draw) (defScope s__law_draw) .none kV23 dc23 pm23 an23 cd23 ct23), sl23⟩) (c23 : PySem.W.codeIn K cd23 "_law_draw" = true) (k23 : PySem.W.keepIn K (.ref f23) = true)
    (a24 : PySem.W.nsIn K mainGlobals "_law_of" = some (some (.ref f24))) (l24 : K.lookup f24 = some ⟨oc24, od24, .func (PySem.W.fnOf "_law_of" "_law_of" (defArgs s__law_of) (defBody s__law_of) (defScope s__law_of) .none kV24 dc24 pm24 an24 cd24 ct24), sl24⟩) (c24 : PySem.W.codeIn K cd24 "_law_of" = true) (k24 : PySem.W.keepIn K (.ref f24) = true)
    (a25 : PySem.W.nsIn K mainGlobals "_law_between" = some (some (.ref f25))) (l25 : K.lookup f25 = some ⟨oc25, od25, .func (PySem.W.fnOf "_law_between" "_law_between" (defArgs s__law_between) (defBody s__law_between) (defScope s__law_between) .none kV25 dc25 pm25 an25 cd25 ct25), sl25⟩) (c25 : PySem.W.codeIn K cd25 "_law_between" = true) (k25 : PySem.W.keepIn K (.ref f25) = true)
    (a26 : PySem.W.nsIn K mainGlobals "_law_common" = some (some (.ref f26))) (l26 : K.lookup f26 = some ⟨oc26, od26, .func (PySem.W.fnOf "_law_common" "_law_common" (defArgs s__law_common) (defBody s__law_common) (defScope s__law_common) .none kV26 dc26 pm26 an26 cd26 ct26), sl26⟩) (c26 : PySem.W.codeIn K cd26 "_law_common" = true) (k26 : PySem.W.keepIn K (.ref f26) = true)
    (a27 : PySem.W.nsIn K mainGlobals "_law_cut" = some (some (.ref f27))) (l27 : K.lookup f27 = some ⟨oc27, od27, .func (PySem.W.fnOf "_law_cut" "_law_cut" (defArgs s__law_cut) (defBody s__law_cut) (defScope s__law_cut) .none kV27 dc27 pm27 an27 cd27 ct27), sl27⟩) (c27 : PySem.W.codeIn K cd27 "_law_cut" = true) (k27 : PySem.W.keepIn K (.ref f27) = true)
    (a28 : PySem.W.nsIn K mainGlobals "_law_plus" = some (some (.ref f28))) (l28 : K.lookup f28 = some ⟨oc28, od28, .func (PySem.W.fnOf "_law_plus" "_law_plus" (defArgs s__law_plus) (defBody s__law_plus) (defScope s__law_plus) .none kV28 dc28 pm28 an28 cd28 ct28), sl28⟩) (c28 : PySem.W.codeIn K cd28 "_law_plus" = true) (k28 : PySem.W.keepIn K (.ref f28) = true)
    (a29 : PySem.W.nsIn K mainGlobals "_law_less" = some (some (.ref f29))) (l29 : K.lookup f29 = some ⟨oc29, od29, .func (PySem.W.fnOf "_law_less" "_law_less" (defArgs s__law_less) (defBody s__law_less) (defScope s__law_less) .none kV29 dc29 pm29 an29 cd29 ct29), sl29⟩) (c29 : PySem.W.codeIn K cd29 "_law_less" = true) (k29 : PySem.W.keepIn K (.ref f29) = true)
    (a30 : PySem.W.nsIn K mainGlobals "_law_by" = some (some (.ref f30))) (l30 : K.lookup f30 = some ⟨oc30, od30, .func (PySem.W.fnOf "_law_by" "_law_by" (defArgs s__law_by) (defBody s__law_by) (defScope s__law_by) .none kV30 dc30 pm30 an30 cd30 ct30), sl30⟩) (c30 : PySem.W.codeIn K cd30 "_law_by" = true) (k30 : PySem.W.keepIn K (.ref f30) = true)
    (a31 : PySem.W.nsIn K mainGlobals "_law_over" = some (some (.ref f31))) (l31 : K.lookup f31 = some ⟨oc31, od31, .func (PySem.W.fnOf "_law_over" "_law_over" (defArgs s__law_over) (defBody s__law_over) (defScope s__law_over) .none kV31 dc31 pm31 an31 cd31 ct31), sl31⟩) (c31 : PySem.W.codeIn K cd31 "_law_over" = true) (k31 : PySem.W.keepIn K (.ref f31) = true)
    (a32 : PySem.W.nsIn K mainGlobals "_law_numbers" = some (some (.ref f32))) (l32 : K.lookup f32 = some ⟨oc32, od32, .func (PySem.W.fnOf "_law_numbers" "_law_numbers" (defArgs s__law_numbers) (defBody s__law_numbers) (defScope s__law_numbers) .none kV32 dc32 pm32 an32 cd32 ct32), sl32⟩) (c32 : PySem.W.codeIn K cd32 "_law_numbers" = true) (k32 : PySem.W.keepIn K (.ref f32) = true)
    (a33 : PySem.W.nsIn K mainGlobals "_law_led" = some (some (.ref f33))) (l33 : K.lookup f33 = some ⟨oc33, od33, .func (PySem.W.fnOf "_law_led" "_law_led" (defArgs s__law_led) (defBody s__law_led) (defScope s__law_led) .none kV33 dc33 pm33 an33 cd33 ct33), sl33⟩) (c33 : PySem.W.codeIn K cd33 "_law_led" = true) (k33 : PySem.W.keepIn K (.ref f33) = true)
    (a34 : PySem.W.nsIn K mainGlobals "_law_pair" = some (some (.ref f34))) (l34 : K.lookup f34 = some ⟨oc34, od34, .func (PySem.W.fnOf "_law_pair" "_law_pair" (defArgs s__law_pair) (defBody s__law_pair) (defScope s__law_pair) .none kV34 dc34 pm34 an34 cd34 ct34), sl34⟩) (c34 : PySem.W.codeIn K cd34 "_law_pair" = true) (k34 : PySem.W.keepIn K (.ref f34) = true)
    (a35 : PySem.W.nsIn K mainGlobals "_law_reduced_right" = some (some (.ref f35))) (l35 : K.lookup f35 = some ⟨oc35, od35, .func (PySem.W.fnOf "_law_reduced_right" "_law_reduced_right" (defArgs s__law_reduced_right) (defBody s__law_reduced_right) (defScope s__law_reduced_right) .none kV35 dc35 pm35 an35 cd35 ct35), sl35⟩) (c35 : PySem.W.codeIn K cd35 "_law_reduced_right" = true) (k35 : PySem.W.keepIn K (.ref f35) = true)
    (a36 : PySem.W.nsIn K mainGlobals "_law_drawn" = some (some (.ref f36))) (l36 : K.lookup f36 = some ⟨oc36, od36, .func (PySem.W.fnOf "_law_drawn" "_law_drawn" (defArgs s__law_drawn) (defBody s__law_drawn) (defScope s__law_drawn) .none kV36 dc36 pm36 an36 cd36 ct36), sl36⟩) (c36 : PySem.W.codeIn K cd36 "_law_drawn" = true) (k36 : PySem.W.keepIn K (.ref f36) = true)
    (a37 : PySem.W.nsIn K mainGlobals "_law_pairs_right" = some (some (.ref f37))) (l37 : K.lookup f37 = some ⟨oc37, od37, .func (PySem.W.fnOf "_law_pairs_right" "_law_pairs_right" (defArgs s__law_pairs_right) (defBody s__law_pairs_right) (defScope s__law_pairs_right) .none kV37 dc37 pm37 an37 cd37 ct37), sl37⟩) (c37 : PySem.W.codeIn K cd37 "_law_pairs_right" = true) (k37 : PySem.W.keepIn K (.ref f37) = true)
    (a38 : PySem.W.nsIn K mainGlobals "law" = some (some (.ref f38))) (l38 : K.lookup f38 = some ⟨oc38, od38, .func (PySem.W.fnOf "law" "law" (defArgs s_law) (defBody s_law) (defScope s_law) .none kV38 dc38 pm38 an38 cd38 ct38), sl38⟩) (c38 : PySem.W.codeIn K cd38 "law" = true) (k38 : PySem.W.keepIn K (.ref f38) = true)
    (z_gcd : PySem.W.nsIn K mainGlobals "gcd" = some (some (.builtin "math.gcd")))
    (z_int : PySem.W.nsIn K mainGlobals "int" = some none)
    (z_len : PySem.W.nsIn K mainGlobals "len" = some none)
    (z_tuple : PySem.W.nsIn K mainGlobals "tuple" = some none)
    (z_any : PySem.W.nsIn K mainGlobals "any" = some none)
    (z_abs : PySem.W.nsIn K mainGlobals "abs" = some none)
    (z_range : PySem.W.nsIn K mainGlobals "range" = some none)
    (z_enumerate : PySem.W.nsIn K mainGlobals "enumerate" = some none)
    (z_repr : PySem.W.nsIn K mainGlobals "repr" = some none)
    (z_REDUCED_B2 : PySem.W.nsIn K mainGlobals "REDUCED_B2" = some (some (.ref aT_REDUCED_B2))) (w_REDUCED_B2 : K.lookup aT_REDUCED_B2 = some ⟨.type "tuple", odT_REDUCED_B2, .seq #[.int (0) uT_REDUCED_B2_0, .int (1) uT_REDUCED_B2_1, .int (4) uT_REDUCED_B2_2, .int (5) uT_REDUCED_B2_3, .int (-4) uT_REDUCED_B2_4, .int (-3) uT_REDUCED_B2_5] nT_REDUCED_B2, slT_REDUCED_B2⟩)
    : ∃ fd : FuncData, (∀ (s : Shared) (v : Value), BindsTo s fd ⟨[v], []⟩ [("script", v)]) ∧ ∀ base : Heap, K.In base → base.Ns mainGlobals mg → FnG P w K mg base 7 fa fd ["script"] (sp_law K) := by
  have T : Tx K mg := ⟨PySem.W.mg_of X G z_gcd, PySem.W.mg_none_of X G z_int, PySem.W.mg_none_of X G z_len, PySem.W.mg_none_of X G z_tuple, PySem.W.mg_none_of X G z_any, PySem.W.mg_none_of X G z_abs, PySem.W.mg_none_of X G z_range, PySem.W.mg_none_of X G z_enumerate, PySem.W.mg_none_of X G z_repr, ⟨_, ⟨_, PySem.W.mg_of X G z_REDUCED_B2, rfl⟩, fun _ => Or.inr ⟨_, _, _, w_REDUCED_B2, rfl, rfl, (by show 6 ≤ sizeLine; decide), (.cons ⟨_, rfl⟩ (.cons ⟨_, rfl⟩ (.cons ⟨_, rfl⟩ (.cons ⟨_, rfl⟩ (.cons ⟨_, rfl⟩ (.cons ⟨_, rfl⟩ .nil))))))⟩⟩⟩
  have d2 : Df K mg "lowest" s_lowest ["n", "d"] := df_mk X G a2 l2 c2 k2 (fun _ _ _ _ _ _ us hl => match us, hl with | [_, _], _ => rfl)
  have d4 : Df K mg "five" s_five ["curve"] := df_mk X G a4 l4 c4 k4 (fun _ _ _ _ _ _ us hl => match us, hl with | [_], _ => rfl)
  have d6 : Df K mg "plus" s_plus ["f", "g"] := df_mk X G a6 l6 c6 k6 (fun _ _ _ _ _ _ us hl => match us, hl with | [_, _], _ => rfl)
  have d7 : Df K mg "times" s_times ["f", "g"] := df_mk X G a7 l7 c7 k7 (fun _ _ _ _ _ _ us hl => match us, hl with | [_, _], _ => rfl)
  have d8 : Df K mg "over" s_over ["f", "g"] := df_mk X G a8 l8 c8 k8 (fun _ _ _ _ _ _ us hl => match us, hl with | [_, _], _ => rfl)
  have d9 : Df K mg "whole_fraction" s_whole_fraction ["n"] := df_mk X G a9 l9 c9 k9 (fun _ _ _ _ _ _ us hl => match us, hl with | [_], _ => rfl)
  have d10 : Df K mg "total" s_total ["fractions"] := df_mk X G a10 l10 c10 k10 (fun _ _ _ _ _ _ us hl => match us, hl with | [_], _ => rfl)
  have d11 : Df K mg "product" s_product ["fractions"] := df_mk X G a11 l11 c11 k11 (fun _ _ _ _ _ _ us hl => match us, hl with | [_], _ => rfl)
  have d13 : Df K mg "led" s_led ["curve", "change"] := df_mk X G a13 l13 c13 k13 (fun _ _ _ _ _ _ us hl => match us, hl with | [_, _], _ => rfl)
  have d14 : Df K mg "whole_curve" s_whole_curve ["fractions"] := df_mk X G a14 l14 c14 k14 (fun _ _ _ _ _ _ us hl => match us, hl with | [_], _ => rfl)
  have d17 : Df K mg "reduced" s_reduced ["curve"] := df_mk X G a17 l17 c17 k17 (fun _ _ _ _ _ _ us hl => match us, hl with | [_], _ => rfl)
  have d18 : Df K mg "over_whole" s_over_whole ["n", "d"] := df_mk X G a18 l18 c18 k18 (fun _ _ _ _ _ _ us hl => match us, hl with | [_, _], _ => rfl)
  have d19 : Df K mg "told_numbers" s_told_numbers ["c4", "c6"] := df_mk X G a19 l19 c19 k19 (fun _ _ _ _ _ _ us hl => match us, hl with | [_, _], _ => rfl)
  have d20 : Df K mg "curve_of" s_curve_of ["c4", "c6"] := df_mk X G a20 l20 c20 k20 (fun _ _ _ _ _ _ us hl => match us, hl with | [_, _], _ => rfl)
  have d22 : Df K mg "_law_begun" s__law_begun ["script", "k"] := df_mk X G a22 l22 c22 k22 (fun _ _ _ _ _ _ us hl => match us, hl with | [_, _], _ => rfl)
  have d23 : Df K mg "_law_draw" s__law_draw ["m", "below"] := df_mk X G a23 l23 c23 k23 (fun _ _ _ _ _ _ us hl => match us, hl with | [_, _], _ => rfl)
  have d24 : Df K mg "_law_of" s__law_of ["m", "some"] := df_mk X G a24 l24 c24 k24 (fun _ _ _ _ _ _ us hl => match us, hl with | [_, _], _ => rfl)
  have d25 : Df K mg "_law_between" s__law_between ["m", "size"] := df_mk X G a25 l25 c25 k25 (fun _ _ _ _ _ _ us hl => match us, hl with | [_, _], _ => rfl)
  have d26 : Df K mg "_law_common" s__law_common ["a", "b"] := df_mk X G a26 l26 c26 k26 (fun _ _ _ _ _ _ us hl => match us, hl with | [_, _], _ => rfl)
  have d27 : Df K mg "_law_cut" s__law_cut ["n", "d"] := df_mk X G a27 l27 c27 k27 (fun _ _ _ _ _ _ us hl => match us, hl with | [_, _], _ => rfl)
  have d28 : Df K mg "_law_plus" s__law_plus ["f", "g"] := df_mk X G a28 l28 c28 k28 (fun _ _ _ _ _ _ us hl => match us, hl with | [_, _], _ => rfl)
  have d29 : Df K mg "_law_less" s__law_less ["f", "g"] := df_mk X G a29 l29 c29 k29 (fun _ _ _ _ _ _ us hl => match us, hl with | [_, _], _ => rfl)
  have d30 : Df K mg "_law_by" s__law_by ["f", "g"] := df_mk X G a30 l30 c30 k30 (fun _ _ _ _ _ _ us hl => match us, hl with | [_, _], _ => rfl)
  have d31 : Df K mg "_law_over" s__law_over ["f", "g"] := df_mk X G a31 l31 c31 k31 (fun _ _ _ _ _ _ us hl => match us, hl with | [_, _], _ => rfl)
  have d32 : Df K mg "_law_numbers" s__law_numbers ["five_v"] := df_mk X G a32 l32 c32 k32 (fun _ _ _ _ _ _ us hl => match us, hl with | [_], _ => rfl)
  have d33 : Df K mg "_law_led" s__law_led ["five_v", "change"] := df_mk X G a33 l33 c33 k33 (fun _ _ _ _ _ _ us hl => match us, hl with | [_, _], _ => rfl)
  have d34 : Df K mg "_law_pair" s__law_pair ["c4", "c6"] := df_mk X G a34 l34 c34 k34 (fun _ _ _ _ _ _ us hl => match us, hl with | [_, _], _ => rfl)
  have d35 : Df K mg "_law_reduced_right" s__law_reduced_right ["five_v"] := df_mk X G a35 l35 c35 k35 (fun _ _ _ _ _ _ us hl => match us, hl with | [_], _ => rfl)
  have d36 : Df K mg "_law_drawn" s__law_drawn ["m"] := df_mk X G a36 l36 c36 k36 (fun _ _ _ _ _ _ us hl => match us, hl with | [_], _ => rfl)
  have d37 : Df K mg "_law_pairs_right" s__law_pairs_right ["m", "five_v"] := df_mk X G a37 l37 c37 k37 (fun _ _ _ _ _ _ us hl => match us, hl with | [_, _], _ => rfl)
  refine law_fd X G hfa a38 l38 c38 k38 (fun _ _ _ _ _ _ us hl => match us, hl with | [_], _ => rfl) (fun fd F base => ?_)
  have c_lowest := k_lowest (P := P) (w := w) (base := base) T d2 
  have c_five := k_five (P := P) (w := w) (base := base) T d4 
  have c_whole_fraction := k_whole_fraction (P := P) (w := w) (base := base) T d9 
  have c_whole_curve := k_whole_curve (P := P) (w := w) (base := base) T d14 
  have c_over_whole := k_over_whole (P := P) (w := w) (base := base) T d18 
  have c_law_begun := k_law_begun (P := P) (w := w) (base := base) T d22 
  have c_law_draw := k_law_draw (P := P) (w := w) (base := base) T d23 
  have c_law_common := k_law_common (P := P) (w := w) (base := base) T d26 
  have c_law_numbers := k_law_numbers (P := P) (w := w) (base := base) T d32 
  have c_plus := k_plus (P := P) (w := w) (base := base) T d6 c_lowest
  have c_times := k_times (P := P) (w := w) (base := base) T d7 c_lowest
  have c_over := k_over (P := P) (w := w) (base := base) T d8 c_lowest
  have c_told_numbers := k_told_numbers (P := P) (w := w) (base := base) T d19 c_over_whole
  have c_law_of := k_law_of (P := P) (w := w) (base := base) T d24 c_law_draw
  have c_law_between := k_law_between (P := P) (w := w) (base := base) T d25 c_law_draw
  have c_law_cut := k_law_cut (P := P) (w := w) (base := base) T d27 c_law_common
  have c_law_pair := k_law_pair (P := P) (w := w) (base := base) T d34 c_law_numbers
  have c_total := k_total (P := P) (w := w) (base := base) T d10 c_plus
  have c_product := k_product (P := P) (w := w) (base := base) T d11 c_times
  have c_curve_of := k_curve_of (P := P) (w := w) (base := base) T d20 c_told_numbers c_over_whole
  have c_law_plus := k_law_plus (P := P) (w := w) (base := base) T d28 c_law_cut
  have c_law_less := k_law_less (P := P) (w := w) (base := base) T d29 c_law_cut
  have c_law_by := k_law_by (P := P) (w := w) (base := base) T d30 c_law_cut
  have c_law_over := k_law_over (P := P) (w := w) (base := base) T d31 c_law_cut
  have c_law_drawn := k_law_drawn (P := P) (w := w) (base := base) T d36 c_law_of c_law_numbers c_law_between
  have c_led := k_led (P := P) (w := w) (base := base) T d13 c_plus c_total c_times c_whole_fraction c_over c_five c_product
  have c_law_led := k_law_led (P := P) (w := w) (base := base) T d33 c_law_less c_law_plus c_law_by c_law_over
  have c_law_pairs_right := k_law_pairs_right (P := P) (w := w) (base := base) T d37 c_law_between c_law_numbers c_law_draw c_law_pair c_law_of c_curve_of
  have c_reduced := k_reduced (P := P) (w := w) (base := base) T d17 c_five c_whole_curve c_led
  have c_law_reduced_right := k_law_reduced_right (P := P) (w := w) (base := base) T d35 c_law_numbers c_reduced c_law_led c_law_pair
  exact k_law T F c_law_begun c_law_drawn c_law_reduced_right c_law_pairs_right c_curve_of
end K12
open PySem PySem.W PyProof.Rows
set_option maxRecDepth 100000 in
set_option maxHeartbeats 0 in
theorem PySem.Challenge.cw_pointsum_k12_whole_reduced_and_pairs_holds : PySem.Challenge.rw_pointsum_k12_whole_reduced_and_pairs.Holds := by
  w_on; o_law; k_head; (case hw => w_witness2)
  k_fill
  refine Gd.walk_g (l := PySem.Challenge.rw_pointsum_k12_whole_reduced_and_pairs) (n := 63) (k := 7) (x := "script") (sp := fun K => K12.sp_law K) rfl (by decide) rfl ⟨rfl, by decide, by decide⟩ (fun w h Y => PySem.W.kIn_of Y) ?F (fun K H a ns hl hS => ⟨a, ns, rfl, hS, hl, fun _ => rfl⟩)
  case F =>
    intro w mg fa h KX G hmg
    refine' K12.all_mk KX G hmg ?a2 ?l2 ?c2 ?k2 ?a4 ?l4 ?c4 ?k4 ?a6 ?l6 ?c6 ?k6 ?a7 ?l7 ?c7 ?k7 ?a8 ?l8 ?c8 ?k8 ?a9 ?l9 ?c9 ?k9 ?a10 ?l10 ?c10 ?k10 ?a11 ?l11 ?c11 ?k11 ?a13 ?l13 ?c13 ?k13 ?a14 ?l14 ?c14 ?k14 ?a17 ?l17 ?c17 ?k17 ?a18 ?l18 ?c18 ?k18 ?a19 ?l19 ?c19 ?k19 ?a20 ?l20 ?c20 ?k20 ?a22 ?l22 ?c22 ?k22 ?a23 ?l23 ?c23 ?k23 ?a24 ?l24 ?c24 ?k24 ?a25 ?l25 ?c25 ?k25 ?a26 ?l26 ?c26 ?k26 ?a27 ?l27 ?c27 ?k27 ?a28 ?l28 ?c28 ?k28 ?a29 ?l29 ?c29 ?k29 ?a30 ?l30 ?c30 ?k30 ?a31 ?l31 ?c31 ?k31 ?a32 ?l32 ?c32 ?k32 ?a33 ?l33 ?c33 ?k33 ?a34 ?l34 ?c34 ?k34 ?a35 ?l35 ?c35 ?k35 ?a36 ?l36 ?c36 ?k36 ?a37 ?l37 ?c37 ?k37 ?a38 ?l38 ?c38 ?k38 ?z_gcd ?z_int ?z_len ?z_tuple ?z_any ?z_abs ?z_range ?z_enumerate ?z_repr ?w_REDUCED_B2 ?z_REDUCED_B2
    (case a2 => k_is); (case l2 => k_is); (case c2 => k_is); (case k2 => k_is); (case a4 => k_is); (case l4 => k_is); (case c4 => k_is); (case k4 => k_is)
    (case a6 => k_is); (case l6 => k_is); (case c6 => k_is); (case k6 => k_is); (case a7 => k_is); (case l7 => k_is); (case c7 => k_is); (case k7 => k_is)
    (case a8 => k_is); (case l8 => k_is); (case c8 => k_is); (case k8 => k_is); (case a9 => k_is); (case l9 => k_is); (case c9 => k_is); (case k9 => k_is)
    (case a10 => k_is); (case l10 => k_is); (case c10 => k_is); (case k10 => k_is); (case a11 => k_is); (case l11 => k_is); (case c11 => k_is); (case k11 => k_is)
    (case a13 => k_is); (case l13 => k_is); (case c13 => k_is); (case k13 => k_is); (case a14 => k_is); (case l14 => k_is); (case c14 => k_is); (case k14 => k_is)
    (case a17 => k_is); (case l17 => k_is); (case c17 => k_is); (case k17 => k_is); (case a18 => k_is); (case l18 => k_is); (case c18 => k_is); (case k18 => k_is)
    (case a19 => k_is); (case l19 => k_is); (case c19 => k_is); (case k19 => k_is); (case a20 => k_is); (case l20 => k_is); (case c20 => k_is); (case k20 => k_is)
    (case a22 => k_is); (case l22 => k_is); (case c22 => k_is); (case k22 => k_is); (case a23 => k_is); (case l23 => k_is); (case c23 => k_is); (case k23 => k_is)
    (case a24 => k_is); (case l24 => k_is); (case c24 => k_is); (case k24 => k_is); (case a25 => k_is); (case l25 => k_is); (case c25 => k_is); (case k25 => k_is)
    (case a26 => k_is); (case l26 => k_is); (case c26 => k_is); (case k26 => k_is); (case a27 => k_is); (case l27 => k_is); (case c27 => k_is); (case k27 => k_is)
    (case a28 => k_is); (case l28 => k_is); (case c28 => k_is); (case k28 => k_is); (case a29 => k_is); (case l29 => k_is); (case c29 => k_is); (case k29 => k_is)
    (case a30 => k_is); (case l30 => k_is); (case c30 => k_is); (case k30 => k_is); (case a31 => k_is); (case l31 => k_is); (case c31 => k_is); (case k31 => k_is)
    (case a32 => k_is); (case l32 => k_is); (case c32 => k_is); (case k32 => k_is); (case a33 => k_is); (case l33 => k_is); (case c33 => k_is); (case k33 => k_is)
    (case a34 => k_is); (case l34 => k_is); (case c34 => k_is); (case k34 => k_is); (case a35 => k_is); (case l35 => k_is); (case c35 => k_is); (case k35 => k_is)
    (case a36 => k_is); (case l36 => k_is); (case c36 => k_is); (case k36 => k_is); (case a37 => k_is); (case l37 => k_is); (case c37 => k_is); (case k37 => k_is)
    (case a38 => k_is); (case l38 => k_is); (case c38 => k_is); (case k38 => k_is); (case z_gcd => k_is); (case z_int => k_is); (case z_len => k_is); (case z_tuple => k_is)
    (case z_any => k_is); (case z_abs => k_is); (case z_range => k_is); (case z_enumerate => k_is); (case z_repr => k_is); (case w_REDUCED_B2 => k_is); (case z_REDUCED_B2 => k_is)
